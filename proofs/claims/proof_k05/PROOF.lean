import PyProof.Rows.All
import Wide.All
import OpenK.AllK
import Wide.FinOn
import Lean
import PyProof.EqAt
import PyProof.EqKinds
import PyProof.TupleCall
import PySem.SetTable
import PyProof.TupleKey
import PyProof.SetKind
import PyProof.IsRules
import PyProof.DictKinds
import PyProof.Rows.SetFrom
import PyProof.SetRoads
import PyProof.FactsAll.set
import PyProof.FactsAll.tuple_iterator_1
import KE.KDictSum
import KE.KSortTup
import PyProof.Rows.SortRuns
import PyProof.NeKinds
import KE.KRevIter
import KE.KIsAll
import KE.KSorted
import KE.LcSums
import PyProof.CompFree
import PyProof.CompUse
import PyProof.ZipIter
import KE.KDictList
import PyProof.DictItems
import PyProof.WalksEnum
import PyProof.EnumMake
import PyProof.EnumFor
import PyProof.WalkInts
import PySem.Challenge.RW_hullpart_k05_whole_parted
set_option Elab.async false
set_option linter.all false
set_option maxRecDepth 100000
namespace L2
open PySem PySem.Spec PyProof.Rows
abbrev Key:=Sum Int Str
def keyIs:Key→Value→Bool
 | .inl k,v=>Value.isInt k v
 | .inr x,v=>Value.isStrOf x v
def keyH (w:World):Key→Int
 | .inl k=>hashInt k
 | .inr x=>hashStr w x
theorem keyIs_shape:∀ {k:Key} {v:Value},keyIs k v = true→(∃ i t,k = Sum.inl i∧v = Value.int i t)∨(∃ x t,k = Sum.inr x∧v = Value.str x t)
 | .inl i,v,h=>by
  obtain ⟨t,e⟩:=Value.isInt_shape (k:=i) (v:=v) h
  exact .inl ⟨i,t,rfl,e⟩
 | .inr x,v,h=>by
  obtain ⟨t,e⟩:=Value.isStrOf_shape (x:=x) (v:=v) h
  exact .inr ⟨x,t,rfl,e⟩
theorem keyIs_int (i:Int) (t:Tok):keyIs (.inl i) (.int i t) = true:=by simp [keyIs,Value.isInt]
theorem keyIs_str (x:Str) (t:Tok):keyIs (.inr x) (.str x t) = true:=by simp [keyIs,Value.isStrOf]
theorem key_ll (a b:Int):decide ((Sum.inl a:Key) = Sum.inl b) = (a == b):=by
 by_cases e:a = b
 ·subst e; simp
 ·have h:¬ (Sum.inl a:Key) = Sum.inl b:=fun q=>e (Sum.inl.inj q)
  rw [decide_eq_false h]
  exact (beq_eq_false_iff_ne.mpr e).symm
theorem key_rr (a b:Str):decide ((Sum.inr a:Key) = Sum.inr b) = decide (a = b):=by
 by_cases e:a = b
 ·subst e; simp
 ·have h:¬ (Sum.inr a:Key) = Sum.inr b:=fun q=>e (Sum.inr.inj q)
  rw [decide_eq_false h,decide_eq_false e]
theorem key_lr (a:Int) (b:Str):decide ((Sum.inl a:Key) = Sum.inr b) = false:=decide_eq_false (fun q=>nomatch q)
theorem key_rl (a:Str) (b:Int):decide ((Sum.inr a:Key) = Sum.inl b) = false:=decide_eq_false (fun q=>nomatch q)
def mixKind (prog:Program) (w:World):PySem.KeyKind prog w Key where
 is:=keyIs
 hash:=keyH w
 inj:=fun v a b ha hb=>by
  rcases keyIs_shape ha with ⟨i,t,rfl,rfl⟩ | ⟨x,t,rfl,rfl⟩
  ·rcases keyIs_shape hb with ⟨j,u,rfl,e⟩ | ⟨y,u,rfl,e⟩
   ·injection e with e1 _; rw [e1]
   ·exact nomatch e
  ·rcases keyIs_shape hb with ⟨j,u,rfl,e⟩ | ⟨y,u,rfl,e⟩
   ·exact nomatch e
   ·injection e with e1 _; rw [e1]
 byValue:=fun k v h=>by
  rcases keyIs_shape h with ⟨i,t,rfl,rfl⟩ | ⟨x,t,rfl,rfl⟩ <;> rfl
 pyHash:=fun hv h=>by
  rcases keyIs_shape hv with ⟨i,t,rfl,rfl⟩ | ⟨x,t,rfl,rfl⟩
  ·exact wpAny_pyHash_int h
  ·exact wpAny_pyHash_str h
 eqBool:=fun hu hv h=>by
  rcases keyIs_shape hu with ⟨i,t,rfl,rfl⟩ | ⟨x,t,rfl,rfl⟩
  ·rcases keyIs_shape hv with ⟨j,u,rfl,rfl⟩ | ⟨y,u,rfl,rfl⟩
   ·rw [key_ll] at h; exact wpAny_eqBool_int h
   ·rw [key_lr] at h; exact SeqAt.EqAt.int_str i t y u _ _ _ _ h
  ·rcases keyIs_shape hv with ⟨j,u,rfl,rfl⟩ | ⟨y,u,rfl,rfl⟩
   ·rw [key_rl] at h; exact SeqAt.EqAt.str_int x t j u _ _ _ _ h
   ·rw [key_rr] at h; exact wpAny_eqBool_str h
 «strs»:=fun k x t v h=>by
  rcases keyIs_shape h with ⟨i,u,rfl,e⟩ | ⟨y,u,rfl,e⟩
  ·exact nomatch e
  ·injection e with e1 _
   subst e1
   cases v <;> rfl
theorem mixKind_int (prog:Program) (w:World) (i:Int) (t:Tok):(mixKind prog w).is (.inl i) (.int i t) = true:=keyIs_int i t
theorem mixKind_str (prog:Program) (w:World) (x:Str) (t:Tok):(mixKind prog w).is (.inr x) (.str x t) = true:=keyIs_str x t
end L2
namespace L2
open PySem PySem.Spec PyProof.Rows
inductive V where
 | non | bl (b:Bool) | int (i:Int) | str (x:Str) | byt (b:Array UInt8) | flt (b:UInt64) | ref (a:Addr) | ty (n:String)
 deriving DecidableEq
def RelV:V→Value→Prop
 | .non,u=>u = Value.none
 | .bl b,u=>u = Value.bool b
 | .int i,u=>∃ t,u = Value.int i t
 | .str x,u=>∃ t,u = Value.str x t
 | .byt b,u=>∃ t,u = Value.bytes b t
 | .flt b,u=>∃ t,u = Value.float b t
 | .ref a,u=>u = Value.ref a
 | .ty n,u=>u = Value.type n
abbrev Vals:List V→List Value→Prop:=Paired RelV
theorem Vals.length {xs:List V} {us:List Value} (r:Vals xs us):xs.length = us.length:=Paired.length r
theorem Vals.get:∀ {xs:List V} {us:List Value} {i:Nat} {x:V},Vals xs us→xs[i]? = some x→∃ u,us[i]? = some u∧RelV x u
 | _,_,_,_,.nil,e=>by simp at e
 | _,_,0,_,.cons r _,e=>by simp at e; subst e; exact ⟨_,rfl,r⟩
 | _,_,i+1,x,.cons _ t,e=>by
  obtain ⟨u,h1,h2⟩:=Vals.get (i:=i) (x:=x) t (by simpa using e)
  exact ⟨u,by simpa using h1,h2⟩
theorem Vals.set {x:V} {u:Value} (r:RelV x u):∀ {xs:List V} {us:List Value} (i:Nat),Vals xs us→Vals (xs.set i x) (us.set i u)
 | _,_,_,.nil=>.nil
 | _,_,0,.cons _ t=>.cons r t
 | _,_,i+1,.cons q t=>.cons q (Vals.set r i t)
theorem Vals.append:∀ {xs ys:List V} {us ws:List Value},Vals xs us→Vals ys ws→Vals (xs++ys) (us++ws)
 | _,_,_,_,.nil,s=>s
 | _,_,_,_,.cons r t,s=>.cons r (Vals.append t s)
theorem Vals.take:∀ {xs:List V} {us:List Value} (n:Nat),Vals xs us→Vals (xs.take n) (us.take n)
 | _,_,0,_=>.nil
 | _,_,_+1,.nil=>.nil
 | _,_,n+1,.cons r t=>.cons r (Vals.take n t)
theorem Vals.drop:∀ {xs:List V} {us:List Value} (n:Nat),Vals xs us→Vals (xs.drop n) (us.drop n)
 | _,_,0,r=>r
 | _,_,_+1,.nil=>.nil
 | _,_,n+1,.cons _ t=>Vals.drop n t
def RelO:Option V→Option Value→Prop
 | some v,some u=>RelV v u
 | none,none=>True
 | _,_=>False
def KV {κ:Type}:List (κ×V)→List (κ×Value)→Prop:=Paired fun (p:κ×V) (q:κ×Value)=>p.1 = q.1∧RelV p.2 q.2
def kV:Key→V
 | .inl i=>.int i
 | .inr x=>.str x
inductive HO where
  | lst (xs:List V)
  | tup (xs:List V)
  | dK (kvs:List (Key×V)) | dT (kvs:List (List Key×V))
  | set (S:Int→Bool) (n:Nat)
  | ins (C dx:Addr) (fs:List (Str×V))
  | own (x:Addr)
  | xd (fs:List (Str×V))
  | met (f x:Addr)
  | rng (lo hi:Int)
  | frz (o:Obj) (u:HO)
  | tbl (ps:Array Value)
  | ext (φ:Heap→Prop)
abbrev Hp:=Addr→Option HO
def upd (H:Hp) (a:Addr) (o:HO):Hp:=fun b=>if b = a then some o else H b
theorem upd_same {H:Hp} {a:Addr} {o:HO}:upd H a o a = some o:=by unfold upd; rw [if_pos rfl]
theorem upd_ne {H:Hp} {a b:Addr} {o:HO} (h:b ≠ a):upd H a o b = H b:=by unfold upd; rw [if_neg h]
theorem ne_of {H:Hp} {a b:Addr} {o u:HO} (h:H a = some o) (h':H b = some u) (d:o ≠ u):a ≠ b:=by
 intro e; subst e; rw [h] at h'; exact d (Option.some.inj h')
theorem ne_of_none {H:Hp} {a b:Addr} {o:HO} (h:H a = some o) (h':H b = none):a ≠ b:=by
 intro e; subst e; rw [h] at h'; cases h'
section
variable (P:Program) (w:World)
def ObjOk (H:Hp) (h:Heap) (a:Addr):HO→Prop
 | .lst xs=>xs.length≤sizeLine∧∃ (its:List Value) (n:Nat),Vals xs its∧h.get? a = some { cls:=.type "list",data:=.seq its.toArray n }
 | .tup xs=>xs.length≤sizeLine∧∃ its:List Value,Vals xs its∧IsTup h a its.toArray
 | .dK kvs=>kvs.length≤sizeLine∧(a == sysModules) = false∧∃ vs,KV kvs vs∧h.DictOf (mixKind P w) a vs
 | .dT kvs=>kvs.length≤sizeLine∧(a == sysModules) = false∧∃ xs:List (List Key×Addr×Value),
   Paired (fun (p:List Key×V) (q:List Key×Addr×Value)=>p.1 = q.1∧H q.2.1 = some (.tup (p.1.map kV))∧RelV p.2 q.2.2) kvs xs ∧
   ∃ o es ep,h.get? a = some o∧o.ExactDict∧o.data = .dict es ep∧es.toList = xs.map (entryOfKey (tupleKind (mixKind P w)))∧(xs.map (·.1)).Nodup
 | .set S n=>h.SetOf (intKind P w) a S n
 | .ins C dx fs=>H dx = some (.own a)∧fs.length≤1000∧dx ≠ a∧h.get? a = some (PySem.W.instObj C dx) ∧
   ∃ mA,h.Ns1 dx mA∧(∀ f,RelO (fs.lookup f) (mA f))∧PySem.Within mA (fs.map (·.1))
 | .own _=>∃ o,h.get? a = some o
 | .xd fs=>∃ mA,h.Ns1 a mA∧∀ f,RelO (fs.lookup f) (mA f)
 | .rng lo hi=>∃ t u v,h.get? a = some { cls:=.type "range",data:=.fields #[.int lo t,.int hi u,.int 1 v] }
 | .frz o u=>h.get? a = some o∧ObjOk H h a u
 | .tbl ps=>h.get? a = some { cls:=.none,data:=.fields ps }
 | .met f x=>h.get? a = some (PySem.W.methodObj (.ref f) (.ref x))
 | .ext φ=>φ h∧(∃ o,h.get? a = some o)∧∀ h1 h2:Heap,φ h1→(∀ o,h1.get? a = some o→h2.get? a = some o)→φ h2
def HOk (H:Hp) (h:Heap):Prop:=∀ a o,H a = some o→ObjOk P w H h a o
end
section
variable {P:Program} {w:World} {H H':Hp} {h h':Heap} {a:Addr} {o:HO}
theorem ObjOk.lt (x:ObjOk P w H h a o):a < h.objs.size:=by
 cases o with
 | lst xs=>obtain ⟨_,_,_,_,e⟩:=x; exact Heap.lt_size e
 | tup xs=>obtain ⟨_,_,_,p⟩:=x; exact p.lt
 | dK kvs=>obtain ⟨_,_,_,_,o,_,_,e,_⟩:=x; exact Heap.lt_size e
 | dT kvs=>obtain ⟨_,_,_,_,o,_,_,e,_⟩:=x; exact Heap.lt_size e
 | set S n=>obtain ⟨o,_,_,_,e,_⟩:=x; exact Heap.lt_size e
 | ins C dx fs=>obtain ⟨_,_,_,e,_⟩:=x; exact Heap.lt_size e
 | own y=>obtain ⟨_,e⟩:=x; exact Heap.lt_size e
 | xd fs=>obtain ⟨_,⟨_,_,_,e,_⟩,_⟩:=x; exact Heap.lt_size e
 | rng lo hi=>obtain ⟨_,_,_,e⟩:=x; exact Heap.lt_size e
 | frz ob u=>obtain ⟨e,_⟩:=x; exact Heap.lt_size e
 | tbl ps=>exact Heap.lt_size (show h.get? a = some _ from x)
 | met f y=>exact Heap.lt_size (show h.get? a = some _ from x)
 | ext φ=>obtain ⟨_,⟨_,e⟩,_⟩:=x; exact Heap.lt_size e
theorem Paired.mapP {α β:Type} {F G:α→β→Prop}:∀ {l₁:List α} {l₂:List β},Paired F l₁ l₂→(∀ a b,F a b→G a b)→Paired G l₁ l₂
 | _,_,.nil,_=>.nil
 | _,_,.cons r t,f=>.cons (f _ _ r) (Paired.mapP t f)
theorem ObjOk.stay (x:ObjOk P w H h a o) (k:∀ b u,(b = a∨H b = some (.own a))→h.get? b = some u→h'.get? b = some u)
  (ho:∀ b,H b = some (.own a)→H' b = some (.own a)) (ht:∀ b xs,H b = some (.tup xs)→H' b = some (.tup xs)):ObjOk P w H' h' a o:=by
 induction o with
 | lst xs=>obtain ⟨z,its,n,r,e⟩:=x; exact ⟨z,its,n,r,k _ _ (.inl rfl) e⟩
 | tup xs=>obtain ⟨z,its,r,ob,e,c⟩:=x; exact ⟨z,its,r,ob,k _ _ (.inl rfl) e,c⟩
 | dK kvs=>obtain ⟨z,y,vs,r,ob,es,ep,e,c⟩:=x; exact ⟨z,y,vs,r,ob,es,ep,k _ _ (.inl rfl) e,c⟩
 | dT kvs =>
  obtain ⟨z,y,xs,r,ob,es,ep,e,c⟩:=x
  exact ⟨z,y,xs,Paired.mapP r fun p q z=>⟨z.1,ht _ _ z.2.1,z.2.2⟩,ob,es,ep,k _ _ (.inl rfl) e,c⟩
 | set S n=>obtain ⟨ob,es,ep,t,e,c⟩:=x; exact ⟨ob,es,ep,t,k _ _ (.inl rfl) e,c⟩
 | ins C dx fs =>
  obtain ⟨d,z,ne,e,mA,⟨od,es,ep,e2,c⟩,r⟩:=x
  exact ⟨ho _ d,z,ne,k _ _ (.inl rfl) e,mA,⟨od,es,ep,k _ _ (.inr d) e2,c⟩,r⟩
 | own y=>obtain ⟨ob,e⟩:=x; exact ⟨ob,k _ _ (.inl rfl) e⟩
 | xd fs=>obtain ⟨mA,⟨od,es,ep,e,c⟩,r⟩:=x; exact ⟨mA,⟨od,es,ep,k _ _ (.inl rfl) e,c⟩,r⟩
 | rng lo hi=>obtain ⟨t,u,v,e⟩:=x; exact ⟨t,u,v,k _ _ (.inl rfl) e⟩
 | frz ob u ih=>obtain ⟨e,q⟩:=x; exact ⟨k _ _ (.inl rfl) e,ih q⟩
 | tbl ps =>
  have e:h.get? a = some { cls:=.none,data:=.fields ps }:=x
  show h'.get? a = some { cls:=.none,data:=.fields ps }
  exact k a _ (.inl rfl) e
 | met f y =>
  have e:h.get? a = some (PySem.W.methodObj (.ref f) (.ref y)):=x
  show h'.get? a = some (PySem.W.methodObj (.ref f) (.ref y))
  exact k a _ (.inl rfl) e
 | ext φ=>obtain ⟨p,⟨o,e⟩,st⟩:=x; exact ⟨st _ _ p fun o q=>k _ _ (.inl rfl) q,⟨o,k _ _ (.inl rfl) e⟩,st⟩
theorem HOk.lt (x:HOk P w H h) (e:H a = some o):a < h.objs.size:=(x a o e).lt
theorem HOk.fresh (x:HOk P w H h) (e:h.objs.size≤a):H a = none:=by
 cases q:H a with
 | none=>rfl
 | some u=>exact absurd (Nat.lt_of_lt_of_le (x.lt q) e) (Nat.lt_irrefl _)
theorem HOk.kept (x:HOk P w H h) (k:∀ b u,h.get? b = some u→h'.get? b = some u):HOk P w H h':=fun a o e =>
 (x a o e).stay (fun b u _ q=>k b u q) (fun _ q=>q) fun _ _ q=>q
theorem HOk.laid (x:HOk P w H h) (k:∀ b u,h.get? b = some u→h'.get? b = some u) (hp:h.objs.size≤a) (new:ObjOk P w (upd H a o) h' a o):HOk P w (upd H a o) h':=fun b u e=>by
 have hn:=x.fresh hp
 by_cases hb:b = a
 ·subst hb; rw [upd_same] at e; cases e; exact new
 ·rw [upd_ne hb] at e
  exact (x b u e).stay (fun c v _ q=>k c v q) (fun c q=>by rw [upd_ne (ne_of_none q hn)]; exact q) fun c xs q=>by rw [upd_ne (ne_of_none q hn)]; exact q
end
def Rd (H:Hp) (a:Addr) (u:HO):Prop:=H a = some u∨∃ o,H a = some (.frz o u)
theorem Rd.of {H:Hp} {a:Addr} {u:HO} (h:H a = some u):Rd H a u:=.inl h
theorem Rd.ok {P:Program} {w:World} {H:Hp} {h:Heap} {a:Addr} {u:HO} (r:Rd H a u) (x:HOk P w H h):ObjOk P w H h a u:=by
 rcases r with r | ⟨o,r⟩
 ·exact x a u r
 ·obtain ⟨_,q⟩:=x a _ r
  exact q
def Mut:Option HO→Prop
 | some (.lst _)=>True
 | some (.dK _)=>True
 | some (.dT _)=>True
 | some (.set _ _)=>True
 | some (.ins _ _ _)=>True
 | some (.ext _)=>True
 | _=>False
section
variable {P:Program} {w:World} {H:Hp} {h h':Heap} {x e:Addr} {o':HO}
theorem HOk.write (ok:HOk P w H h) (mu:Mut (H x)) (he:e = x∨H e = some (.own x)) (k:∀ b u,b ≠ e→h.get? b = some u→h'.get? b = some u) (heo:∃ u,h'.get? e = some u)
  (new:ObjOk P w (upd H x o') h' x o'):HOk P w (upd H x o') h':=fun b u q=>by
 have nown:∀ c y,H c = some (.own y)→c ≠ x:=fun c y r z=>by subst z; rw [r] at mu; exact mu
 have ntup:∀ c xs,H c = some (.tup xs)→c ≠ x:=fun c xs r z=>by subst z; rw [r] at mu; exact mu
 by_cases hb:b = x
 ·subst hb; rw [upd_same] at q; cases q; exact new
 ·rw [upd_ne hb] at q
  by_cases hbe:b = e
  ·have q':H b = some (.own x):=by
    rcases he with z | z
    ·exact absurd (hbe.trans z) hb
    ·rw [hbe]; exact z
   rw [q] at q'; cases q'
   obtain ⟨v,hv⟩:=heo
   exact ⟨v,by rw [hbe]; exact hv⟩
  ·refine (ok b u q).stay (fun c v hc r=>k c v ?_ r) (fun c r=>by rw [upd_ne (nown c b r)]; exact r) fun c xs r=>by rw [upd_ne (ntup c xs r)]; exact r
   rcases hc with rfl | hc
   ·exact hbe
   ·rintro rfl
    rcases he with z | z
    ·exact nown c b hc z
    ·rw [hc] at z; cases z; exact hb rfl
end
structure Un (fs ex:List Addr) (H H':Hp) (h h':Heap):Prop where
 keep:∀ b o,h.get? b = some o→H b = none→b ∉ fs→b ∉ ex→h'.get? b = some o
 slot:∀ b o,h.get? b = some o→H b = none→b ∈ fs→b ∉ ex→∃ sl,h'.get? b = some { o with slots:=sl }
 free:∀ b o,h.get? b = some o→H b = none→b ∉ ex→H' b = none
 there:∀ b o,h.get? b = some o→b ∉ ex→∃ o',h'.get? b = some o'
 tups:∀ b xs,H b = some (.tup xs)→H' b = some (.tup xs)
 frzs:∀ b o u,H b = some (.frz o u)→H' b = some (.frz o u)
 tbls:∀ b ps,H b = some (.tbl ps)→∃ more,H' b = some (.tbl (ps++more))
section
variable {fs fs' ex ex':List Addr} {H H1 H2:Hp} {h h1 h2 h':Heap} {a x e:Addr} {o:HO}
theorem Un.any (u:Un fs ex H H1 h h1) {b:Addr} {ob:Obj} (q:h.get? b = some ob) (n:H b = none) (hx:b ∉ ex):∃ sl,h1.get? b = some { ob with slots:=sl }:=by
 by_cases hb:b ∈ fs
 ·exact u.slot b ob q n hb hx
 ·exact ⟨ob.slots,u.keep b ob q n hb hx⟩
theorem Un.trans (a:Un fs ex H H1 h h1) (b:Un fs ex H1 H2 h1 h2):Un fs ex H H2 h h2 where
 keep:=fun c ob q n hc hx=>b.keep c ob (a.keep c ob q n hc hx) (a.free c ob q n hx) hc hx
 slot:=fun c ob q n hc hx=>by
  obtain ⟨sl,e1⟩:=a.slot c ob q n hc hx
  obtain ⟨sl',e2⟩:=b.slot c _ e1 (a.free c ob q n hx) hc hx
  exact ⟨sl',e2⟩
 free:=fun c ob q n hx=>by
  obtain ⟨o',e1⟩:=a.there c ob q hx
  exact b.free c o' e1 (a.free c ob q n hx) hx
 there:=fun c ob q hx=>by
  obtain ⟨o',e1⟩:=a.there c ob q hx
  exact b.there c o' e1 hx
 tups:=fun c xs q=>b.tups c xs (a.tups c xs q)
 frzs:=fun c ob xs q=>b.frzs c ob xs (a.frzs c ob xs q)
 tbls:=fun c ps q=>by
  obtain ⟨m1,e1⟩:=a.tbls c ps q
  obtain ⟨m2,e2⟩:=b.tbls c _ e1
  exact ⟨m1++m2,by rw [e2,Array.append_assoc]⟩
theorem Un.kept (k:∀ b u,h.get? b = some u→h'.get? b = some u):Un fs ex H H h h' :=
 ⟨fun b ob q _ _ _=>k b ob q,fun b ob q _ _ _=>⟨ob.slots,k b ob q⟩,fun _ _ _ n _=>n,fun b ob q _=>⟨ob,k b ob q⟩,fun _ _ q=>q,fun _ _ _ q=>q,fun _ ps q=>⟨#[],by rw [q]; simp⟩⟩
theorem Un.refl:Un fs ex H H h h:=Un.kept fun _ _ q=>q
theorem Un.laid (k:∀ b u,h.get? b = some u→h'.get? b = some u) (hp:h.objs.size≤a) (hn:H a = none):Un fs ex H (upd H a o) h h' where
 keep:=fun b u q _ _ _=>k b u q
 slot:=fun b u q _ _ _=>⟨u.slots,k b u q⟩
 free:=fun b u q n _=>by rw [upd_ne (Nat.ne_of_lt (Nat.lt_of_lt_of_le (Heap.lt_size q) hp))]; exact n
 there:=fun b u q _=>⟨u,k b u q⟩
 tups:=fun b xs q=>by rw [upd_ne (ne_of_none q hn)]; exact q
 frzs:=fun b u xs q=>by rw [upd_ne (ne_of_none q hn)]; exact q
 tbls:=fun b ps q=>⟨#[],by rw [upd_ne (ne_of_none q hn),q]; simp⟩
theorem Un.write (mu:Mut (H x)) (he:e = x∨H e = some (.own x)) (k:∀ b u,b ≠ e→h.get? b = some u→h'.get? b = some u) (heo:∃ u,h'.get? e = some u):Un fs ex H (upd H x o) h h':=by
 have hx:∀ b,H b = none→b ≠ x:=fun b n z=>by subst z; rw [n] at mu; exact mu
 have hb:∀ b,H b = none→b ≠ e:=fun b n z=>by
  subst z
  rcases he with r | r
  ·exact hx b n r
  ·rw [n] at r; cases r
 have hm:∀ b u,H b = some u→¬ Mut (some u)→b ≠ x:=fun b u q nm z=>by subst z; rw [q] at mu; exact nm mu
 refine ⟨fun b u q n _ _=>k b u (hb b n) q,fun b u q n _ _=>⟨u.slots,k b u (hb b n) q⟩,fun b u q n _=>by rw [upd_ne (hx b n)]; exact n,fun b u q _=>?_,
  fun b xs q=>by rw [upd_ne (hm b _ q fun z=>z)]; exact q,fun b u xs q=>by rw [upd_ne (hm b _ q fun z=>z)]; exact q,fun b ps q=>⟨#[],by rw [upd_ne (hm b _ q fun z=>z),q]; simp⟩⟩
 by_cases hbe:b = e
 ·subst hbe; exact heo
 ·exact ⟨u,k b u hbe q⟩
theorem Un.mono (u:Un fs ex H H1 h h1) (hs:∀ b ∈ fs,b ∈ fs') (hx:∀ b ∈ ex,b ∈ ex'):Un fs' ex' H H1 h h1 :=
 ⟨fun b ob q n hb he=>u.keep b ob q n (fun z=>hb (hs b z)) fun z=>he (hx b z),fun _ _ q n _ he=>u.any q n fun z=>he (hx _ z),fun b ob q n he=>u.free b ob q n fun z=>he (hx b z),fun b ob q he=>u.there b ob q fun z=>he (hx b z),u.tups,u.frzs,u.tbls⟩
end
def trk (h:Heap) (H:Hp):List Addr:=(List.range h.objs.size).filter fun a=>(H a).isSome
def hidT (h:Heap) (H:Hp):Heap:=PySem.W.hideAll h (trk h H)
theorem hidT_size (h:Heap) (H:Hp):(hidT h H).objs.size = h.objs.size:=PySem.W.hideAll_size _ _
theorem hidT_get {h:Heap} {H:Hp} {b:Addr} {o:Obj} (e:h.get? b = some o) (n:H b = none):(hidT h H).get? b = some o :=
 PySem.W.hideAll_get _ e fun hm=>by
  have q:(H b).isSome = true:=(List.mem_filter.mp hm).2
  rw [n] at q; simp at q
theorem of_hidT {h:Heap} {H:Hp} {b:Addr} {o:Obj} (e:(hidT h H).get? b = some o):h.get? b = some o∧H b = none:=by
 have e':h.get? b = some o:=PySem.W.of_hideAll (trk h H) e
 refine ⟨e',?_⟩
 cases q:H b with
 | none=>rfl
 | some x =>
  have hm:b ∈ trk h H:=List.mem_filter.mpr ⟨List.mem_range.mpr (Heap.lt_size e'),by simp [q]⟩
  have z:(hidT h H).get? b = none:=PySem.W.hideAll_none (trk h H) hm
  rw [z] at e; cases e
def allNews (g h:Heap) (L:Addr):List (Addr×Obj):=(List.range h.objs.size).filterMap fun a=>if a = L∨(g.get? a).isSome = true then none else (h.get? a).map fun o=>(a,o)
theorem mem_allNews {g h:Heap} {L a:Addr} {o:Obj} (h1:a ≠ L) (h2:g.get? a = none) (h3:h.get? a = some o):(a,o) ∈ allNews g h L :=
 List.mem_filterMap.mpr ⟨a,List.mem_range.mpr (Heap.lt_size h3),by simp [h1,h2,h3]⟩
theorem of_mem_allNews {g h:Heap} {L:Addr} {p:Addr×Obj} (hp:p ∈ allNews g h L):p.1 ≠ L∧g.get? p.1 = none∧h.get? p.1 = some p.2:=by
 obtain ⟨b,_,e⟩:=List.mem_filterMap.mp hp
 split at e
 ·cases e
 ·rename_i hn
  cases q:h.get? b with
  | none=>rw [q] at e; simp at e
  | some u =>
   rw [q] at e
   simp only [Option.map_some,Option.some.injEq] at e
   subst e
   refine ⟨fun z=>hn (.inl z),?_,q⟩
   show g.get? b = none
   cases r:g.get? b with
   | none=>rfl
   | some v=>exact (hn (.inr (by simp [r]))).elim
def rest (g h:Heap) (L d:Addr):List (Addr×Obj):=(allNews g h L).filter fun p=>decide (p.1 ≠ d)
theorem news_all {g h:Heap} {L:Addr}:News g L h (allNews g h L):=fun p hp=>let ⟨a,b,c⟩:=of_mem_allNews hp; ⟨c,a,b⟩
end L2
namespace L2
open PySem PySem.Spec PyProof.Rows
structure Mod (K:PySem.W.Frag) (mg:Str→Option Value) (base:Heap):Prop where
 kin:K.In base
 glob:base.Ns mainGlobals mg
 blt:∃ mb,base.Ns builtinsNs mb∧∀ x:Str,x ≠ "__name__"→mb x = bootBuiltins x
 nolimit:base.NoLimit
structure Cx where
 prog:Program
 w:World
 K:PySem.W.Frag
 mg:Str→Option Value
 base:Heap
 A:Around
 N:List Str
 s₀:Shared
 H₀:Hp
 env:Env
 outer:List Env
 stack:List Env
 ex:List Addr
 fn:Str→Bool
 calm:Bool
 pn:List (Addr×Obj)
 xe:Value→Shared→Prop
def frs (l:List Env):List Addr:=l.filterMap (·.frame)
abbrev Cx.fs (X:Cx):List Addr:=frs X.outer
def Vis (sc:Scope) (x:Str):Prop:=sc.names.lookup x = some .local∨sc.names.lookup x = some .cell∨sc.names.lookup x = some .free
def Loc (sc:Scope) (x:Str):Prop:=sc.names.lookup x = some .local∨sc.names.lookup x = some .cell
def Look (env:Env) (h:Heap) (m:Str→Option Value) (x:Str) (u:Value):Prop :=
 (env.kindOf x = some .local∧m x = some u)∨((env.kindOf x = some .cell∨env.kindOf x = some .free)∧∃ c,env.cells.lookup x = some c∧h.IsCell c (some u))
structure Cx.Ok (X:Cx):Prop where
 mod:Mod X.K X.mg X.base
 kind:X.env.scope.kind = .function
 glob:X.env.globals = mainGlobals
 blt:X.env.builtins = builtinsNs
 above:X.s₀.heap.objs.size≤X.env.locals
 inj:∀ x y c,X.env.cells.lookup x = some c→X.env.cells.lookup y = some c→x = y
 has:∀ x,(X.env.kindOf x = some .cell∨X.env.kindOf x = some .free)→∃ c,X.env.cells.lookup x = some c
 cab:∀ x c,X.fn x = true→X.env.cells.lookup x = some c→X.s₀.heap.objs.size≤c
 hd:X.calm = true→X.A.handled = none
 frames:X.A.frames = some X.stack
 stk:X.stack = X.outer∨(X.stack = X.env :: X.outer∧X.env.frame = some X.env.locals)
 exf:∀ b ∈ X.ex,b ≠ X.env.locals∧∀ x c,X.env.cells.lookup x = some c→c ≠ b
 bs:∀ b o,X.base.get? b = some o→X.s₀.heap.get? b = some o∧X.H₀ b = none
 bsz:X.base.objs.size≤X.s₀.heap.objs.size
 noex:∀ b o,X.base.get? b = some o→b ∉ X.ex
 exfs:∀ b ∈ X.ex,b ∉ X.fs
 funs:X.s₀.heap.FunFrames X.base X.outer
 frf:∀ b ∈ X.fs,X.H₀ b = none
structure Inv (X:Cx) (pins:List (Addr×Obj)) (σ:List (Option V)) (H:Hp) (s:Shared):Prop where
 ok:X.Ok
 os:s.os = X.s₀.os
 bare:AllBare s.gens
 base:Un X.fs X.ex X.H₀ H X.s₀.heap s.heap
 loc:∃ m,s.heap.Ns X.env.locals m∧∀ (i:Nat) (x:Str) (v:V),X.N[i]? = some x→σ[i]? = some (some v)→Vis X.env.scope x→∃ u,RelV v u∧Look X.env s.heap m x u
 cell:∀ x c,X.env.cells.lookup x = some c→∃ v,s.heap.IsCell c v
 free:H X.env.locals = none
 freeC:∀ x c,X.env.cells.lookup x = some c→H c = none
 pin:∀ p ∈ X.pn++pins,s.heap.get? p.1 = some p.2∧H p.1 = none∧p.1 ≠ X.env.locals∧p.1 ∉ X.fs∧∀ v,p.2.data ≠ .cell v
 hok:HOk X.prog X.w H s.heap
 len:σ.length = X.N.length
section
variable {X:Cx} {pins:List (Addr×Obj)} {σ:List (Option V)} {H H':Hp} {s:Shared} {h':Heap}
theorem Cx.Ok.nofr (ok:X.Ok) {b:Addr} {o:Obj} (e:X.base.get? b = some o):b ∉ X.fs:=fun hb=>by
 have:=(ok.funs.mem hb).1
 rw [e] at this; cases this
theorem Inv.bs (I:Inv X pins σ H s):∀ b o,X.base.get? b = some o→s.heap.get? b = some o∧H b = none:=fun b o e =>
 ⟨I.base.keep b o (I.ok.bs b o e).1 (I.ok.bs b o e).2 (I.ok.nofr e) (I.ok.noex b o e),I.base.free b o (I.ok.bs b o e).1 (I.ok.bs b o e).2 (I.ok.noex b o e)⟩
theorem Inv.bk (I:Inv X pins σ H s):∀ b o,X.base.get? b = some o→s.heap.get? b = some o:=fun b o e=>(I.bs b o e).1
theorem Inv.mod (I:Inv X pins σ H s):Mod X.K X.mg X.base:=I.ok.mod
theorem Inv.kIn (I:Inv X pins σ H s):X.K.In s.heap:=I.ok.mod.kin.keeps I.bk
theorem Inv.nolimit (I:Inv X pins σ H s):s.heap.NoLimit:=I.ok.mod.nolimit.keeps I.bk
theorem Inv.fr (I:Inv X pins σ H s):∃ m,Fr X.base X.env.locals s.heap m :=
 let ⟨m,hn,_⟩:=I.loc
 ⟨m,hn,I.bk,Nat.le_trans I.ok.bsz I.ok.above⟩
theorem Inv.lt (I:Inv X pins σ H s):X.env.locals < s.heap.objs.size:=let ⟨_,hn,_⟩:=I.loc; hn.lt
theorem Inv.sz (I:Inv X pins σ H s):X.s₀.heap.objs.size≤s.heap.objs.size:=Nat.le_trans I.ok.above (Nat.le_of_lt I.lt)
theorem Inv.nofs (I:Inv X pins σ H s) {a:Addr} (h:s.heap.objs.size≤a):a ∉ X.fs:=fun hb=>by
 obtain ⟨_,o,ho,_⟩:=I.ok.funs.mem hb
 exact absurd (Nat.lt_of_lt_of_le (Heap.lt_size ho) (Nat.le_trans I.sz h)) (Nat.lt_irrefl _)
theorem Inv.cne (I:Inv X pins σ H s):∀ x c,X.env.cells.lookup x = some c→c ≠ X.env.locals:=fun x c e z=>by
 obtain ⟨v,o,ho,hd⟩:=I.cell x c e
 obtain ⟨m,⟨o',es,ep,ho',hd',_⟩,_⟩:=I.loc
 rw [z,ho'] at ho; cases ho; rw [hd'] at hd; cases hd
theorem Inv.funs (I:Inv X pins σ H s):s.heap.FunFrames X.base X.outer:=by
 have all:∀ (l:List Env),(∀ b ∈ frs l,b ∈ X.fs)→X.s₀.heap.FunFrames X.base l→s.heap.FunFrames X.base l:=by
  intro l
  induction l with
  | nil=>intro _ _; trivial
  | cons env r ih =>
   intro hs hl
   obtain ⟨hk,⟨L,o,hf,hn,ho,hd⟩,hr⟩:=hl
   have hL:L ∈ X.fs:=hs L (by unfold frs; rw [List.filterMap_cons,hf]; exact List.mem_cons_self)
   obtain ⟨sl,e⟩:=I.base.slot L o ho (I.ok.frf L hL) hL fun z=>I.ok.exfs L z hL
   exact ⟨hk,⟨L,_,hf,hn,e,hd⟩,ih (fun b hb=>hs b (by unfold frs; rw [List.filterMap_cons,hf]; exact List.mem_cons_of_mem _ hb)) hr⟩
 exact all X.outer (fun _ hb=>hb) I.ok.funs
theorem Inv.stack (I:Inv X pins σ H s):s.heap.FunFrames X.base X.stack:=by
 rcases I.ok.stk with e | ⟨e,hf⟩
 ·rw [e]; exact I.funs
 ·rw [e]
  obtain ⟨m,hn,_⟩:=I.loc
  refine .cons (by rw [I.ok.kind]; decide) hf hn ?_ I.funs
  exact Heap.get?_none_of_le (Nat.le_trans I.ok.bsz I.ok.above)
theorem Inv.stkSub (I:Inv X pins σ H s):∀ b ∈ frs X.stack,b ∈ X.env.locals :: X.fs:=fun b hb=>by
 rcases I.ok.stk with e | ⟨e,hf⟩
 ·rw [e] at hb; exact List.mem_cons_of_mem _ hb
 ·rw [e] at hb
  unfold frs at hb
  rw [List.filterMap_cons,hf] at hb
  exact hb
theorem Inv.stkFree (I:Inv X pins σ H s):∀ b ∈ frs X.stack,H b = none:=fun b hb=>by
 rcases List.mem_cons.mp (I.stkSub b hb) with e | hb
 ·rw [e]; exact I.free
 ·obtain ⟨_,o,ho,_⟩:=I.ok.funs.mem hb
  exact I.base.free b o ho (I.ok.frf b hb) fun z=>I.ok.exfs b z hb
theorem Inv.step {g':Array GenState} {t':Nat} {d':Drawn} {ch:List Addr} (I:Inv X pins σ H s)
  (hch:∀ b ∈ ch,(b ∈ X.ex∨X.s₀.heap.objs.size≤b)∧b ≠ X.env.locals∧(∀ x c,X.env.cells.lookup x = some c→c ≠ b)∧∀ p ∈ X.pn++pins,p.1 ≠ b)
  (keep:∀ b o,b ≠ X.env.locals→b ∉ X.fs→b ∉ ch→s.heap.get? b = some o→H b = none→h'.get? b = some o)
  (slot:∀ b o,b ≠ X.env.locals→b ∈ X.fs→b ∉ ch→s.heap.get? b = some o→H b = none→∃ sl,h'.get? b = some { o with slots:=sl }) (free:∀ b o,b ∉ ch→s.heap.get? b = some o→H b = none→H' b = none)
  (there:∀ b o,b ∉ ch→s.heap.get? b = some o→∃ o',h'.get? b = some o')
  (tups:∀ b xs,H b = some (.tup xs)→H' b = some (.tup xs)) (frzs:∀ b o u,H b = some (.frz o u)→H' b = some (.frz o u)) (tbls:∀ b ps,H b = some (.tbl ps)→∃ more,H' b = some (.tbl (ps++more)))
  (ns:∀ m,s.heap.Ns X.env.locals m→h'.Ns X.env.locals m) (hok:HOk X.prog X.w H' h') (hg:AllBare g') :
  Inv X pins σ H' { s with heap:=h',gens:=g',drawn:=d',toks:=t' }:=by
 have neL:∀ b o,X.s₀.heap.get? b = some o→b ≠ X.env.locals:=fun b o e=>Nat.ne_of_lt (Nat.lt_of_lt_of_le (Heap.lt_size e) I.ok.above)
 have neC:∀ b o,X.s₀.heap.get? b = some o→b ∉ X.ex→b ∉ ch:=fun b o e hx hb=>by
  rcases (hch b hb).1 with z | z
  ·exact hx z
  ·exact absurd (Nat.lt_of_lt_of_le (Heap.lt_size e) z) (Nat.lt_irrefl _)
 have cellK:∀ x c,X.env.cells.lookup x = some c→∀ v,s.heap.IsCell c v→h'.IsCell c v:=fun x c e v ⟨o,ho,hd⟩=>by
  have nch:c ∉ ch:=fun z=>(hch c z).2.2.1 x c e rfl
  by_cases hc:c ∈ X.fs
  ·obtain ⟨sl,q⟩:=slot c o (I.cne x c e) hc nch ho (I.freeC x c e)
   exact ⟨_,q,hd⟩
  ·exact ⟨o,keep c o (I.cne x c e) hc nch ho (I.freeC x c e),hd⟩
 refine ⟨I.ok,I.os,hg,⟨fun b o e n hb hx=>?_,fun b o e n hb hx=>?_,fun b o e n hx=>?_,fun b o e hx=>?_,fun b xs e=>tups b xs (I.base.tups b xs e),fun b o xs e=>frzs b o xs (I.base.frzs b o xs e),fun b ps e=>?_⟩,?_,fun x c e=>?_,?_,fun x c e=>?_,fun p hp=>?_,hok,I.len⟩
 ·exact keep b o (neL b o e) hb (neC b o e hx) (I.base.keep b o e n hb hx) (I.base.free b o e n hx)
 ·obtain ⟨sl,e1⟩:=I.base.slot b o e n hb hx
  obtain ⟨sl',e2⟩:=slot b _ (neL b o e) hb (neC b o e hx) e1 (I.base.free b o e n hx)
  exact ⟨sl',e2⟩
 ·obtain ⟨o',e1⟩:=I.base.there b o e hx
  exact free b o' (neC b o e hx) e1 (I.base.free b o e n hx)
 ·obtain ⟨o',e1⟩:=I.base.there b o e hx
  exact there b o' (neC b o e hx) e1
 ·obtain ⟨m1,e1⟩:=I.base.tbls b ps e
  obtain ⟨m2,e2⟩:=tbls b _ e1
  exact ⟨m1++m2,by rw [e2,Array.append_assoc]⟩
 ·obtain ⟨m,hn,hl⟩:=I.loc
  refine ⟨m,ns m hn,fun i x v e1 e2 e3=>?_⟩
  obtain ⟨u,r,l⟩:=hl i x v e1 e2 e3
  refine ⟨u,r,?_⟩
  rcases l with l | ⟨k,c,e,z⟩
  ·exact .inl l
  ·exact .inr ⟨k,c,e,cellK x c e _ z⟩
 ·obtain ⟨v,z⟩:=I.cell x c e
  exact ⟨v,cellK x c e v z⟩
 ·obtain ⟨m,⟨o,_,_,ho,_⟩,_⟩:=I.loc
  exact free _ o (fun z=>(hch _ z).2.1 rfl) ho I.free
 ·obtain ⟨v,o,ho,hd⟩:=I.cell x c e
  exact free c o (fun z=>(hch c z).2.2.1 x c e rfl) ho (I.freeC x c e)
 ·obtain ⟨e,n,ne,nf,d⟩:=I.pin p hp
  have nch:p.1 ∉ ch:=fun z=>(hch p.1 z).2.2.2 p hp rfl
  exact ⟨keep p.1 p.2 ne nf nch e n,free p.1 p.2 nch e n,ne,nf,d⟩
theorem Inv.un {t':Nat} (I:Inv X pins σ H s) (u:Un X.fs [] H H' s.heap h') (hok:HOk X.prog X.w H' h'):Inv X pins σ H' { s with heap:=h',toks:=t' }:=by
 obtain ⟨m,⟨o,es,ep,ho,r⟩,_⟩:=id I.loc
 obtain ⟨sl,hL⟩:=u.any ho I.free (by simp)
 exact I.step (g':=s.gens) (d':=s.drawn) (ch:=[]) (fun _ z=>nomatch z) (fun b o _ hb _ e n=>u.keep b o e n hb (by simp)) (fun b o _ hb _ e n=>u.slot b o e n hb (by simp)) (fun b o _ e n=>u.free b o e n (by simp)) (fun b o _ e=>u.there b o e (by simp)) u.tups u.frzs u.tbls (fun m' hm=>by
  obtain ⟨o',es',ep',ho',r'⟩:=hm
  rw [ho] at ho'; cases ho'
  exact ⟨_,es',ep',hL,r'⟩) hok I.bare
theorem Inv.call {g':Array GenState} {t':Nat} {d':Drawn} {ch:List Addr} (I:Inv X pins σ H s) (u:Un (frs X.stack) ch H H' s.heap h') (hok:HOk X.prog X.w H' h') (hg:AllBare g')
  (hch:∀ b ∈ ch,(b ∈ X.ex∨X.s₀.heap.objs.size≤b)∧b ≠ X.env.locals∧(∀ x c,X.env.cells.lookup x = some c→c ≠ b)∧∀ p ∈ X.pn++pins,p.1 ≠ b) :
  Inv X pins σ H' { s with heap:=h',gens:=g',drawn:=d',toks:=t' }:=by
 obtain ⟨m,⟨o,es,ep,ho,r⟩,_⟩:=id I.loc
 obtain ⟨sl,hL⟩:=u.any ho I.free fun z=>(hch _ z).2.1 rfl
 exact I.step (ch:=ch) hch (fun b o hL hb hc e n=>u.keep b o e n (fun z=>(List.mem_cons.mp (I.stkSub b z)).elim hL hb) hc) (fun b o _ _ hc e n=>u.any e n hc) (fun b o hc e n=>u.free b o e n hc) (fun b o hc e=>u.there b o e hc) u.tups u.frzs u.tbls (fun m' hm=>by
  obtain ⟨o',es',ep',ho',r'⟩:=hm
  rw [ho] at ho'; cases ho'
  exact ⟨_,es',ep',hL,r'⟩) hok hg
theorem Inv.turned {t':Nat} {it:Addr} (I:Inv X pins σ H s) (k:∀ b o,b ≠ it→s.heap.get? b = some o→h'.get? b = some o) (hn:H it = none) (hL:it ≠ X.env.locals)
  (h1:it ∈ X.ex∨X.s₀.heap.objs.size≤it) (h2:∀ x c,X.env.cells.lookup x = some c→c ≠ it) (h3:∀ p ∈ X.pn++pins,p.1 ≠ it):Inv X pins σ H { s with heap:=h',toks:=t' }:=by
 have nit:∀ b u,H b = some u→b ≠ it:=fun b u e z=>by rw [z,hn] at e; cases e
 refine I.step (g':=s.gens) (d':=s.drawn) (ch:=[it]) (fun b hb=>?_) (fun b o _ _ hc e _=>k b o (fun z=>hc (by simp [z])) e) (fun b o _ _ hc e _=>⟨o.slots,k b o (fun z=>hc (by simp [z])) e⟩) (fun _ _ _ _ n=>n)
  (fun b o hc e=>⟨o,k b o (fun z=>hc (by simp [z])) e⟩) (fun _ _ e=>e) (fun _ _ _ e=>e) (fun b ps e=>⟨#[],by rw [e]; simp⟩) (fun m hm=>?_) (fun b u e=>?_) I.bare
 ·have e:b = it:=by simpa using hb
  subst e
  exact ⟨h1,hL,h2,h3⟩
 ·obtain ⟨o,es,ep,ho,r⟩:=hm
  exact ⟨o,es,ep,k _ o (Ne.symm hL) ho,r⟩
 ·refine (I.hok b u e).stay (fun c v hc q=>k c v ?_ q) (fun _ q=>q) fun _ _ q=>q
  rcases hc with z | z
  ·rw [z]; exact nit b u e
  ·exact nit c _ z
theorem Inv.tok (I:Inv X pins σ H s) (t:Nat):Inv X pins σ H { s with toks:=t }:=I.un (h':=s.heap) (t':=t) Un.refl I.hok
theorem Inv.kept {t':Nat} (I:Inv X pins σ H s) (k:∀ b u,s.heap.get? b = some u→h'.get? b = some u):Inv X pins σ H { s with heap:=h',toks:=t' }:=I.un (Un.kept k) (I.hok.kept k)
theorem Inv.laid {a:Addr} {o:HO} {t':Nat} (I:Inv X pins σ H s) (k:∀ b u,s.heap.get? b = some u→h'.get? b = some u) (hp:s.heap.objs.size≤a) (new:ObjOk X.prog X.w (upd H a o) h' a o) :
  Inv X pins σ (upd H a o) { s with heap:=h',toks:=t' }:=I.un (Un.laid k hp (I.hok.fresh hp)) (I.hok.laid k hp new)
theorem Inv.write {x e:Addr} {o:HO} {t':Nat} (I:Inv X pins σ H s) (mu:Mut (H x)) (he:e = x∨H e = some (.own x)) (k:∀ b u,b ≠ e→s.heap.get? b = some u→h'.get? b = some u) (heo:∃ u,h'.get? e = some u)
  (new:ObjOk X.prog X.w (upd H x o) h' x o):Inv X pins σ (upd H x o) { s with heap:=h',toks:=t' }:=I.un (Un.write mu he k heo) (I.hok.write mu he k heo new)
theorem Inv.pins_of {pins':List (Addr×Obj)} (I:Inv X pins σ H s) (h:∀ p ∈ pins',s.heap.get? p.1 = some p.2∧H p.1 = none∧p.1 ≠ X.env.locals∧p.1 ∉ X.fs∧∀ v,p.2.data ≠ .cell v):Inv X pins' σ H s :=
 ⟨I.ok,I.os,I.bare,I.base,I.loc,I.cell,I.free,I.freeC,fun p hp=>(List.mem_append.mp hp).elim (fun z=>I.pin p (List.mem_append_left _ z)) (h p),I.hok,I.len⟩
theorem nodup_ix {N:List Str} (hN:N.Nodup) {i j:Nat} {x:Str} (a:N[i]? = some x) (b:N[j]? = some x):i = j:=by
 obtain ⟨h1,e1⟩:=List.getElem?_eq_some_iff.mp a
 obtain ⟨h2,e2⟩:=List.getElem?_eq_some_iff.mp b
 exact (List.getElem_inj hN).mp (e1.trans e2.symm)
theorem store_ok2 {M:Model} {A:Around} {E:Value→Shared→Prop} {i:Nat} {x:Str} {v:V} {u:Value} {Q:Unit→Shared→Prop} (I:Inv X pins σ H s) (hN:X.N.Nodup) (hi:X.N[i]? = some x) (hx:Loc X.env.scope x) (r:RelV v u)
  (h:∀ s',Inv X pins (σ.set i (some v)) H s'→(∃ a,Heap.SameBut a s.heap s'.heap∧(a = X.env.locals∨X.env.cells.lookup x = some a))→Q () s') (hf:X.fn x = true∨X.env.scope.names.lookup x = some .local:=by first | exact .inl rfl | exact .inr rfl | assumption):wpAny M A (storeName X.env x u) Q E s:=by
 obtain ⟨m,hn,hl⟩:=id I.loc
 have hcls:(X.env.scope.kind == .class || (X.env.scope.kind == .module && X.env.locals != X.env.globals)) = false:=by rw [I.ok.kind]; rfl
 have hiσ:i < σ.length:=by rw [I.len]; exact (List.getElem?_eq_some_iff.mp hi).1
 have cne:=I.cne
 have tracked:∀ {a:Addr} {h':Heap},(∃ o,s.heap.get? a = some o∧H a = none)→Heap.SameBut a s.heap h'→HOk X.prog X.w H h':=fun {a h'} ha hs b ob e=>by
  obtain ⟨_,_,hfree⟩:=ha
  refine (I.hok b ob e).stay (fun c w' hc q=>(hs.2 c ?_).trans q) (fun _ q=>q) fun _ _ q=>q
  rintro rfl
  rcases hc with rfl | hc
  ·rw [hfree] at e; cases e
  ·rw [hfree] at hc; cases hc
 rcases hx with hk | hk
 ·refine wpAny_storeName_local hk hn (fun h' hn' hs=>?_) hcls
  obtain ⟨oL,_,_,hoL,_⟩:=id hn
  refine h _ ⟨I.ok,I.os,I.bare,⟨fun b o e n hb hx=>?_,fun b o e n hb hx=>?_,I.base.free,fun b o e hx=>?_,I.base.tups,I.base.frzs,I.base.tbls⟩,⟨_,hn',fun j y v' e1 e2 e3=>?_⟩,fun y c e=>?_,I.free,I.freeC,fun p hp=>?_,tracked ⟨oL,hoL,I.free⟩ hs,by simpa using I.len⟩ ⟨_,hs,.inl rfl⟩
  ·exact (hs.2 b (Nat.ne_of_lt (Nat.lt_of_lt_of_le (Heap.lt_size e) I.ok.above))).trans (I.base.keep b o e n hb hx)
  ·obtain ⟨sl,e1⟩:=I.base.slot b o e n hb hx
   exact ⟨sl,(hs.2 b (Nat.ne_of_lt (Nat.lt_of_lt_of_le (Heap.lt_size e) I.ok.above))).trans e1⟩
  ·obtain ⟨o',e1⟩:=I.base.there b o e hx
   exact ⟨o',(hs.2 b (Nat.ne_of_lt (Nat.lt_of_lt_of_le (Heap.lt_size e) I.ok.above))).trans e1⟩
  ·by_cases hj:j = i
   ·subst hj
    rw [hi] at e1; cases e1
    rw [List.getElem?_set_self hiσ] at e2
    cases e2
    exact ⟨u,r,.inl ⟨hk,by simp⟩⟩
   ·rw [List.getElem?_set_ne (Ne.symm hj)] at e2
    obtain ⟨u',r',q⟩:=hl j y v' e1 e2 e3
    refine ⟨u',r',?_⟩
    rcases q with ⟨k,e⟩ | ⟨k,c,e,z⟩
    ·refine .inl ⟨k,?_⟩
     have:y ≠ x:=fun e=>hj (nodup_ix hN e1 (e ▸ hi))
     simp [this,e]
    ·exact .inr ⟨k,c,e,z.sameBut hs (cne y c e)⟩
  ·obtain ⟨w',z⟩:=I.cell y c e
   exact ⟨w',z.sameBut hs (cne y c e)⟩
  ·obtain ⟨e,n,ne,nf,d⟩:=I.pin p hp
   exact ⟨(hs.2 p.1 ne).trans e,n,ne,nf,d⟩
 ·have hfn:X.fn x = true:=by
   rcases hf with z | z
   ·exact z
   ·rw [z] at hk; cases hk
  obtain ⟨c,hc⟩:=I.ok.has x (.inl hk)
  obtain ⟨w',z⟩:=I.cell x c hc
  refine wpAny_storeName_cell I.ok.kind hk hc z (fun h' hc' hs=>?_)
  obtain ⟨oc,hoc,hocd⟩:=id z
  refine h { s with heap:=h' } ⟨I.ok,I.os,I.bare,⟨fun b o e n hb hx=>?_,fun b o e n hb hx=>?_,I.base.free,fun b o e hx=>?_,I.base.tups,I.base.frzs,I.base.tbls⟩,⟨m,hn.sameBut hs (Ne.symm (cne x c hc)),fun j y v' e1 e2 e3=>?_⟩,fun y c' e=>?_,I.free,I.freeC,fun p hp=>?_,tracked ⟨oc,hoc,I.freeC x c hc⟩ hs,by simpa using I.len⟩ ⟨c,hs,.inr hc⟩
  ·exact (hs.2 b (Nat.ne_of_lt (Nat.lt_of_lt_of_le (Heap.lt_size e) (I.ok.cab x c hfn hc)))).trans (I.base.keep b o e n hb hx)
  ·obtain ⟨sl,e1⟩:=I.base.slot b o e n hb hx
   exact ⟨sl,(hs.2 b (Nat.ne_of_lt (Nat.lt_of_lt_of_le (Heap.lt_size e) (I.ok.cab x c hfn hc)))).trans e1⟩
  ·obtain ⟨o',e1⟩:=I.base.there b o e hx
   exact ⟨o',(hs.2 b (Nat.ne_of_lt (Nat.lt_of_lt_of_le (Heap.lt_size e) (I.ok.cab x c hfn hc)))).trans e1⟩
  ·by_cases hj:j = i
   ·subst hj
    rw [hi] at e1; cases e1
    rw [List.getElem?_set_self hiσ] at e2
    cases e2
    exact ⟨u,r,.inr ⟨.inl hk,c,hc,hc'⟩⟩
   ·rw [List.getElem?_set_ne (Ne.symm hj)] at e2
    obtain ⟨u',r',q⟩:=hl j y v' e1 e2 e3
    refine ⟨u',r',?_⟩
    rcases q with q | ⟨k,c',e,z'⟩
    ·exact .inl q
    ·refine .inr ⟨k,c',e,z'.sameBut hs ?_⟩
     rintro rfl
     exact hj (nodup_ix hN e1 (I.ok.inj _ _ _ e hc ▸ hi))
  ·by_cases hcc:c' = c
   ·subst hcc; exact ⟨_,hc'⟩
   ·obtain ⟨w2,z2⟩:=I.cell y c' e
    exact ⟨w2,z2.sameBut hs hcc⟩
  ·obtain ⟨e,n,ne,nf,d⟩:=I.pin p hp
   refine ⟨(hs.2 p.1 ?_).trans e,n,ne,nf,d⟩
   intro q
   rw [q,hoc] at e
   have q':oc = p.2:=Option.some.inj e
   exact d w' (by rw [← q']; exact hocd)
theorem store_ok {M:Model} {A:Around} {E:Value→Shared→Prop} {i:Nat} {x:Str} {v:V} {u:Value} {Q:Unit→Shared→Prop} (I:Inv X pins σ H s) (hN:X.N.Nodup) (hi:X.N[i]? = some x) (hx:Loc X.env.scope x) (r:RelV v u)
  (h:∀ s',Inv X pins (σ.set i (some v)) H s'→Q () s') (hf:X.fn x = true∨X.env.scope.names.lookup x = some .local:=by first | exact .inl rfl | exact .inr rfl | assumption):wpAny M A (storeName X.env x u) Q E s :=
 store_ok2 I hN hi hx r (fun s' I' _=>h s' I') hf
theorem Inv.call' {s':Shared} {ch:List Addr} (I:Inv X pins σ H s) (ho:s'.os = s.os) (u:Un (frs X.stack) ch H H' s.heap s'.heap) (hok:HOk X.prog X.w H' s'.heap) (hg:AllBare s'.gens)
  (hch:∀ b ∈ ch,(b ∈ X.ex∨X.s₀.heap.objs.size≤b)∧b ≠ X.env.locals∧(∀ x c,X.env.cells.lookup x = some c→c ≠ b)∧∀ p ∈ X.pn++pins,p.1 ≠ b):Inv X pins σ H' s':=by
 obtain ⟨h',g',d',t',o'⟩:=s'
 have e:o' = s.os:=ho
 subst e
 exact I.call (g':=g') (t':=t') (d':=d') u hok hg hch
end
abbrev XK:=Value→Option Addr→Hp→Prop
abbrev St:=List (Option V)
abbrev VK:=V→Hp→Prop
abbrev TE:=St→Hp→VK→Prop
abbrev TT:=St→Hp→(Bool→Hp→Prop)→Prop
abbrev TA:=St→Hp→(List V→Hp→Prop)→Prop
structure Ends where
 nx:St→Hp→Prop
 rt:VK
 bk:St→Hp→Prop:=fun _ _=>False
 ct:St→Hp→Prop:=fun _ _=>False
abbrev TS:=Ends→St→Hp→Prop
def EP (X:Cx) (pins:List (Addr×Obj)) (σ:St) (Q:VK) (u:Value) (s':Shared):Prop:=∃ v H',Inv X pins σ H' s'∧RelV v u∧Q v H'
def TP (X:Cx) (pins:List (Addr×Obj)) (σ:St) (Q:Bool→Hp→Prop) (b:Bool) (s':Shared):Prop:=∃ H',Inv X pins σ H' s'∧Q b H'
def AP (X:Cx) (pins:List (Addr×Obj)) (σ:St) (Q:List V→Hp→Prop) (us:List Value) (s':Shared):Prop:=∃ vs H',Inv X pins σ H' s'∧Vals vs us∧Q vs H'
def SP (X:Cx) (pins:List (Addr×Obj)) (D:Ends) (f:Flow) (s':Shared):Prop :=
 match f with
 | .next=>∃ σ' H',Inv X pins σ' H' s'∧D.nx σ' H'
 | .brk=>∃ σ' H',Inv X pins σ' H' s'∧D.bk σ' H'
 | .cont=>∃ σ' H',Inv X pins σ' H' s'∧D.ct σ' H'
 | .ret u=>∃ v σ' H',Inv X pins σ' H' s'∧RelV v u∧D.rt v H'
def PE (X:Cx) (e:Expr) (t:TE):Prop :=
 ∀ (pins:List (Addr×Obj)) (s:Shared) (σ:St) (H:Hp) (Q:VK),Inv X pins σ H s→t σ H Q→wpAny (model X.prog X.w) X.A (eval e X.env) (EP X pins σ Q) X.xe s
def PT (X:Cx) (e:Expr) (t:TT):Prop :=
 ∀ (pins:List (Addr×Obj)) (s:Shared) (σ:St) (H:Hp) (Q:Bool→Hp→Prop),Inv X pins σ H s→t σ H Q→wpAny (model X.prog X.w) X.A (isTrue e X.env (eval e X.env)) (TP X pins σ Q) X.xe s
def PW (X:Cx) (e:Expr) (t:TT):Prop :=
 ∀ (whole:Sem Value) (pins:List (Addr×Obj)) (s:Shared) (σ:St) (H:Hp) (Q:Bool→Hp→Prop),Inv X pins σ H s→t σ H Q→wpAny (model X.prog X.w) X.A (isTrue e X.env whole) (TP X pins σ Q) X.xe s
theorem PW.pt {X:Cx} {e:Expr} {t:TT} (h:PW X e t):PT X e t:=h _
def PA (X:Cx) (es:List Expr) (t:TA):Prop :=
 ∀ (pos:Pos) (pins:List (Addr×Obj)) (s:Shared) (σ:St) (H:Hp) (Q:List V→Hp→Prop),Inv X pins σ H s→t σ H Q→wpAny (model X.prog X.w) X.A (spliced (backTo pos (starEach es X.env))) (AP X pins σ Q) X.xe s
def PS (X:Cx) (st:Stmt) (t:TS):Prop :=
 ∀ (pins:List (Addr×Obj)) (s:Shared) (σ:St) (H:Hp) (D:Ends),Inv X pins σ H s→t D σ H→wpAny (model X.prog X.w) X.A (exec st X.env) (SP X pins D) X.xe s
def PSs (X:Cx) (st:List Stmt) (t:TS):Prop :=
 ∀ (pins:List (Addr×Obj)) (s:Shared) (σ:St) (H:Hp) (D:Ends),Inv X pins σ H s→t D σ H→wpAny (model X.prog X.w) X.A (execs st X.env) (SP X pins D) X.xe s
theorem thn {α:Type} {t:Sem α} {Q Q':α→Shared→Prop} {M:Model} {A:Around} {E:Value→Shared→Prop} {s:Shared} (h:wpAny M A t Q E s) (hQ:∀ a s,Q a s→Q' a s):wpAny M A t Q' E s:=wpAny_mono h hQ fun _ _ x=>x
end L2
namespace L2
open PySem PySem.Spec PyProof.Rows
section
variable {X:Cx}
theorem bin {a b:Expr} {ta tb:TE} (ha:PE X a ta) (hb:PE X b tb) {pins:List (Addr×Obj)} {s:Shared} {σ:St} {H:Hp} {R:V→V→Hp→Prop} (I:Inv X pins σ H s) (h:ta σ H fun x H1=>tb σ H1 fun y H2=>R x y H2)
  {α:Type} {Q:α→Shared→Prop} {f:Value→Value→Sem α}
  (hf:∀ v u s2 x y H2,Inv X pins σ H2 s2→RelV x v→RelV y u→R x y H2→wpAny (model X.prog X.w) X.A (f v u) Q X.xe s2) :
  wpAny (model X.prog X.w) X.A (eval a X.env) (fun v s₁=>wpAny (model X.prog X.w) X.A (eval b X.env) (fun u s₂=>wpAny (model X.prog X.w) X.A (f v u) Q X.xe s₂) X.xe s₁) X.xe s:=by
 refine thn (ha pins s σ H _ I h) fun v s1 ⟨x,H1,I1,r1,q1⟩=>?_
 refine thn (hb pins s1 σ H1 _ I1 q1) fun u s2 ⟨y,H2,I2,r2,q2⟩=>?_
 exact hf v u s2 x y H2 I2 r1 r2 q2
def tVar (i:Nat):TE:=fun σ H Q=>∃ v,σ[i]? = some (some v)∧Q v H
def tC (v:V):TE:=fun _ H Q=>Q v H
theorem pe_var {i:Nat} {x:Str} {pos:Pos} (hN:X.N[i]? = some x) (hv:Vis X.env.scope x) (hd:(x == ("__debug__":Str)) = false:=by decide) (hcd:(x == ("__classdict__":Str)) = false:=by decide):PE X (.Name x pos) (tVar i):=by
 intro pins s σ H Q I h
 obtain ⟨v,e,h⟩:=h
 obtain ⟨m,hn,hl⟩:=I.loc
 obtain ⟨u,r,l⟩:=hl i x v hN e hv
 have fin:EP X pins σ Q u s:=⟨v,H,I,r,h⟩
 rcases l with ⟨hk,hm⟩ | ⟨hk,c,hc,hcell⟩
 ·exact wpAny_Name (wpAny_loadName_local I.ok.kind hk hn hm fin) hd
 ·rcases hk with hk | hk
  ·exact wpAny_Name (wpAny_loadName_cell I.ok.kind hk hc hcell fin) hd
  ·exact wpAny_Name (wpAny_loadName_free I.ok.kind hk hc hcell fin hcd) hd
theorem pe_int {i j pos}:PE X (.Constant (.int i) j pos) (tC (.int i)):=fun _ _ _ H _ I h=>wpAny_Constant_int ⟨.int i,H,I.tok _,⟨_,rfl⟩,h⟩
theorem pe_bl {b j pos}:PE X (.Constant (.bool b) j pos) (tC (.bl b)):=fun _ _ _ H _ I h=>Constant_bool ⟨.bl b,H,I,rfl,h⟩
theorem pe_non {j pos}:PE X (.Constant .none j pos) (tC .non):=fun _ _ _ H _ I h=>Constant_none ⟨.non,H,I,rfl,h⟩
theorem pe_str {x j pos}:PE X (.Constant (.str x) j pos) (tC (.str x)):=fun _ _ _ H _ I h=>Calls.Constant_str ⟨.str x,H,I.tok _,⟨_,rfl⟩,h⟩
def Gl (X:Cx) (x:Str):Prop:=X.env.kindOf x = some .globalImplicit
theorem ld_glob {E:Value→Shared→Prop} {pins:List (Addr×Obj)} {s:Shared} {σ:St} {H:Hp} {x:Str} {u:Value} {pos:Pos} {Q:Value→Shared→Prop} (I:Inv X pins σ H s) (hg:Gl X x) (hm:X.mg x = some u) (h:Q u s)
  (hd:(x == ("__debug__":Str)) = false:=by decide):wpAny (model X.prog X.w) X.A (eval (.Name x pos) X.env) Q E s :=
 Calls.Name_function_global I.ok.kind hg (Calls.loadGlobal_global (by rw [I.ok.glob]; exact I.mod.glob.keeps I.bk) hm h) hd
theorem ld_blt {E:Value→Shared→Prop} {pins:List (Addr×Obj)} {s:Shared} {σ:St} {H:Hp} {x:Str} {u:Value} {pos:Pos} {Q:Value→Shared→Prop} (I:Inv X pins σ H s) (hg:Gl X x) (hm:X.mg x = none) (hv:bootBuiltins x = some u) (h:Q u s)
  (hn:x ≠ "__name__":=by decide) (hd:(x == ("__debug__":Str)) = false:=by decide):wpAny (model X.prog X.w) X.A (eval (.Name x pos) X.env) Q E s:=by
 obtain ⟨mb,h1,h2⟩:=I.mod.blt
 exact Calls.Name_function_global I.ok.kind hg (Calls.loadGlobal_builtin (by rw [I.ok.glob]; exact I.mod.glob.keeps I.bk) hm (by rw [I.ok.blt]; exact h1.keeps I.bk) ((h2 x hn).trans hv) h) hd
theorem pe_glob {x:Str} {v:V} {u:Value} {pos:Pos} (hg:Gl X x) (hm:X.mg x = some u) (r:RelV v u) (hd:(x == ("__debug__":Str)) = false:=by decide):PE X (.Name x pos) (tC v) :=
 fun _ _ _ H _ I h=>ld_glob I hg hm ⟨v,H,I,r,h⟩ hd
theorem pe_bltn {x:Str} {v:V} {u:Value} {pos:Pos} (hg:Gl X x) (hm:X.mg x = none) (hv:bootBuiltins x = some u) (r:RelV v u) (hn:x ≠ "__name__":=by decide) (hd:(x == ("__debug__":Str)) = false:=by decide):PE X (.Name x pos) (tC v) :=
 fun _ _ _ H _ I h=>ld_blt I hg hm hv ⟨v,H,I,r,h⟩ hn hd
variable {a b:Expr} {ta tb:TE} {pos:Pos}
def PC (X:Cx) (op:CmpOp) (a b:Expr) (t:TE):Prop :=
 ∀ (pins:List (Addr×Obj)) (s:Shared) (σ:St) (H:Hp) (Q:VK),Inv X pins σ H s→t σ H Q →
  wpAny (model X.prog X.w) X.A (eval a X.env) (fun v s₁=>wpAny (model X.prog X.w) X.A (eval b X.env) (fun u s₂=>wpAny (model X.prog X.w) X.A (compareOp op v u) (EP X pins σ Q) X.xe s₂) X.xe s₁) X.xe s
theorem nobehind (b:Expr) {op:CmpOp} (h:op ≠ .In) (h2:op ≠ .NotIn):behindInMarks op b = false:=by
 have e1:(op == CmpOp.In) = false:=by cases op <;> first | rfl | exact absurd rfl h
 have e2:(op == CmpOp.NotIn) = false:=by cases op <;> first | rfl | exact absurd rfl h2
 cases b <;> simp [behindInMarks,e1,e2]
def tNotN (ta:TE):TE:=fun σ H Q=>ta σ H fun x H1=>Q (.bl (!decide (x = .non))) H1
theorem RelV.none_iff {x:V} {v:Value} (r:RelV x v):(v == Value.none) = decide (x = .non):=by
 cases x with
 | non=>cases r; rfl
 | bl _=>cases r; rfl
 | int _=>obtain ⟨t,rfl⟩:=r; rfl
 | str _=>obtain ⟨t,rfl⟩:=r; rfl
 | byt _=>obtain ⟨t,rfl⟩:=r; rfl
 | flt _=>obtain ⟨t,rfl⟩:=r; rfl
 | ref _=>cases r; rfl
 | ty _=>cases r; rfl
theorem pc_notN {j pos'} (ha:PE X a ta):PC X .IsNot a (.Constant .none j pos') (tNotN ta):=by
 intro pins s σ H Q I h
 refine thn (ha pins s σ H _ I h) fun v s1 ⟨x,H1,I1,r1,q1⟩=>?_
 exact Constant_none (isnot_none_gen ⟨.bl _,H1,I1,by rw [r1.none_iff]; rfl,q1⟩)
def tB (t:TE):TT:=fun σ H Q=>t σ H fun x H1=>∃ c,x = .bl c∧Q c H1
theorem pt_cmp {op:CmpOp} {t:TE} (h:PC X op a b t) (h1:behindInMarks op b = false:=by first | exact nobehind _ (by decide) (by decide) | rfl):PT X (.Compare a [op] [b] pos) (tB t):=by
 intro pins s σ H Q I hw
 refine wpAny_isTrue_Compare1 (thn (h pins s σ H _ I hw) fun v s1 h1=>thn h1 fun u s2 h2=>thn h2 fun c s3 ⟨x,H1,I1,r1,q1⟩=>?_) h1
 obtain ⟨d,rfl,q⟩:=q1
 cases r1
 exact wpAny_truthy_bool ⟨H1,I1,q⟩
theorem pt_val {e:Expr} {t:TE} (h:PE X e t) (he:∀ whole,isTrue e X.env whole = (do let v ← whole; standAt e.pos; holding [v] (truthy v)):=by intro _; rfl):PT X e (tB t):=by
 intro pins s σ H Q I hw
 refine isTrue_plain (thn (h pins s σ H _ I hw) fun v s1 ⟨x,H1,I1,r1,q1⟩=>?_) (he _)
 obtain ⟨d,rfl,q⟩:=q1
 cases r1
 exact wpAny_truthy_bool ⟨H1,I1,q⟩
variable {tA tB':TT} {rest:List Expr}
def tAnd (t u:TT):TT:=fun σ H Q=>t σ H fun c H1=>if c = true then u σ H1 Q else Q false H1
def tOr (t u:TT):TT:=fun σ H Q=>t σ H fun c H1=>if c = true then Q true H1 else u σ H1 Q
def tNot (t:TT):TT:=fun σ H Q=>t σ H fun c H1=>Q (!c) H1
theorem pw_and1 (ha:PT X a tA):PW X (.BoolOp .And [a] pos) tA:=by
 intro wh pins s σ H Q I h
 refine isTrue_and (thn (ha pins s σ H Q I h) fun c s1 e=>?_)
 cases c with
 | true=>exact isTrue_and_nil e
 | false=>exact e
theorem pw_or1 (ha:PT X a tA):PW X (.BoolOp .Or [a] pos) tA:=by
 intro wh pins s σ H Q I h
 refine isTrue_or (thn (ha pins s σ H Q I h) fun c s1 e=>?_)
 cases c with
 | false=>exact isTrue_or_nil e
 | true=>exact e
theorem pw_and (ha:PT X a tA) (hb:PW X (.BoolOp .And (b :: rest) pos) tB'):PW X (.BoolOp .And (a :: b :: rest) pos) (tAnd tA tB'):=by
 intro wh pins s σ H Q I h
 refine isTrue_and (thn (ha pins s σ H _ I h) fun c s1 ⟨H1,I1,q1⟩=>?_)
 cases c with
 | true=>exact hb wh pins s1 σ H1 Q I1 q1
 | false=>exact ⟨H1,I1,q1⟩
theorem pw_or (ha:PT X a tA) (hb:PW X (.BoolOp .Or (b :: rest) pos) tB'):PW X (.BoolOp .Or (a :: b :: rest) pos) (tOr tA tB'):=by
 intro wh pins s σ H Q I h
 refine isTrue_or (thn (ha pins s σ H _ I h) fun c s1 ⟨H1,I1,q1⟩=>?_)
 cases c with
 | true=>exact ⟨H1,I1,q1⟩
 | false=>exact hb wh pins s1 σ H1 Q I1 q1
theorem pt_not (ha:PT X a tA):PT X (.UnaryOp .Not a pos) (tNot tA):=by
 intro pins s σ H Q I h
 exact isTrue_not (ha pins s σ H (fun c H1=>Q (!c) H1) I h)
def tAndV (ta tb:TE):TE:=fun σ H Q=>ta σ H fun x H1=>∃ c,x = .bl c∧if c = true then tb σ H1 Q else Q (.bl false) H1
def tNotV (ta:TE):TE:=fun σ H Q=>ta σ H fun x H1=>∃ c,x = .bl c∧Q (.bl (!c)) H1
theorem pe_one {op} {t:TE} (h:PE X a t):PE X (.BoolOp op [a] pos) t:=fun pins s σ H Q I hw=>BoolOp_one (h pins s σ H Q I hw)
theorem pe_and (ha:PE X a ta) (hb:PE X (.BoolOp .And (b :: rest) pos) tb):PE X (.BoolOp .And (a :: b :: rest) pos) (tAndV ta tb):=by
 intro pins s σ H Q I h
 refine BoolOp_and (thn (ha pins s σ H _ I h) fun v s1 ⟨x,H1,I1,r1,q1⟩=>?_)
 obtain ⟨c,rfl,q1⟩:=q1
 cases r1
 refine wpAny_truthy_bool ?_
 cases c with
 | true=>exact hb pins s1 σ H1 Q I1 q1
 | false=>exact ⟨.bl false,H1,I1,rfl,q1⟩
theorem pe_not (ha:PE X a ta):PE X (.UnaryOp .Not a pos) (tNotV ta):=by
 intro pins s σ H Q I h
 refine UnaryOp_ (thn (ha pins s σ H _ I h) fun v s1 ⟨x,H1,I1,r1,q1⟩=>?_)
 obtain ⟨c,rfl,q1⟩:=q1
 cases r1
 exact not_of (wpAny_truthy_bool ⟨.bl (!c),H1,I1,rfl,q1⟩)
end
end L2
namespace L2
open PySem PySem.Spec PyProof.Rows
def SqL (K:PySem.W.Frag) (H:Hp) (a:Addr) (xs:List V):Prop :=
 Rd H a (.lst xs) ∨
  ∃ (o:Obj) (its:Array Value) (n:Nat),K.lookup a = some o∧o.cls = .type "list"∧o.dict = none∧o.data = .seq its n∧its.size≤sizeLine∧Vals xs its.toList
def SqT (K:PySem.W.Frag) (H:Hp) (a:Addr) (xs:List V):Prop :=
 Rd H a (.tup xs) ∨
  ∃ (o:Obj) (its:Array Value) (n:Nat),K.lookup a = some o∧o.cls = .type "tuple"∧o.data = .seq its n∧its.size≤sizeLine∧Vals xs its.toList
def absV:Value→Option V
 | .none=>some .non
 | .bool b=>some (.bl b)
 | .int i _=>some (.int i)
 | .str x _=>some (.str x)
 | .bytes b _=>some (.byt b)
 | .float b _=>some (.flt b)
 | .ref a=>some (.ref a)
 | .type n=>some (.ty n)
 | _=>none
theorem RelV.abs {x:V} {u:Value} (r:RelV x u):absV u = some x:=by
 cases x with
 | non=>cases r; rfl
 | bl _=>cases r; rfl
 | int _=>obtain ⟨t,rfl⟩:=r; rfl
 | str _=>obtain ⟨t,rfl⟩:=r; rfl
 | byt _=>obtain ⟨t,rfl⟩:=r; rfl
 | flt _=>obtain ⟨t,rfl⟩:=r; rfl
 | ref _=>cases r; rfl
 | ty _=>cases r; rfl
theorem RelV.inj {x y:V} {u:Value} (r:RelV x u) (q:RelV y u):x = y:=Option.some.inj (r.abs.symm.trans q.abs)
theorem Vals.inj:∀ {xs ys:List V} {us:List Value},Vals xs us→Vals ys us→xs = ys
 | _,_,_,.nil,.nil=>rfl
 | _,_,_,.cons r t,.cons r' t'=>by rw [r.inj r',Vals.inj t t']
section
variable {X:Cx} {pins:List (Addr×Obj)} {σ:St} {H:Hp} {s:Shared} {a:Addr} {xs ys:List V}
theorem SqL.of {K:PySem.W.Frag} (h:H a = some (.lst xs)):SqL K H a xs:=.inl (.inl h)
theorem SqT.of {K:PySem.W.Frag} (h:H a = some (.tup xs)):SqT K H a xs:=.inl (.inl h)
theorem Inv.list (I:Inv X pins σ H s) (h:SqL X.K H a xs):∃ its:List Value,Vals xs its∧PlainL s.heap a its.toArray∧xs.length≤sizeLine:=by
 rcases h with h | ⟨o,its,n,hk,hc,hd,hs,hz,r⟩
 ·obtain ⟨z,its,n,r,e⟩:=h.ok I.hok
  exact ⟨its,r,⟨_,n,e,rfl,rfl,rfl⟩,z⟩
 ·refine ⟨its.toList,r,⟨o,n,I.kIn a o hk,hc,hd,by simpa using hs⟩,?_⟩
  have e:=r.length
  simp only [Array.length_toList] at e
  omega
theorem Inv.tuple (I:Inv X pins σ H s) (h:SqT X.K H a xs):∃ its:List Value,Vals xs its∧IsTup s.heap a its.toArray∧xs.length≤sizeLine:=by
 rcases h with h | ⟨o,its,n,hk,hc,hs,hz,r⟩
 ·obtain ⟨z,its,r,p⟩:=h.ok I.hok
  exact ⟨its,r,p,z⟩
 ·refine ⟨its.toList,r,⟨o,I.kIn a o hk,hc,n,by simpa using hs⟩,?_⟩
  have e:=r.length
  simp only [Array.length_toList] at e
  omega
theorem Inv.list_inj (I:Inv X pins σ H s) (h:SqL X.K H a xs) (h':SqL X.K H a ys):xs = ys:=by
 obtain ⟨its,r,⟨o,n,e,_,_,d⟩,_⟩:=I.list h
 obtain ⟨its',r',⟨o',n',e',_,_,d'⟩,_⟩:=I.list h'
 rw [e] at e'; cases e'
 rw [d] at d'
 injection d' with d1 _
 have:its = its':=by simpa using congrArg Array.toList d1
 subst this
 exact r.inj r'
theorem Inv.tuple_inj (I:Inv X pins σ H s) (h:SqT X.K H a xs) (h':SqT X.K H a ys):xs = ys:=by
 obtain ⟨its,r,⟨o,e,_,n,d⟩,_⟩:=I.tuple h
 obtain ⟨its',r',⟨o',e',_,n',d'⟩,_⟩:=I.tuple h'
 rw [e] at e'; cases e'
 rw [d] at d'
 injection d' with d1 _
 have:its = its':=by simpa using congrArg Array.toList d1
 subst this
 exact r.inj r'
end
abbrev Cx.wish (X:Cx) (E:Value→Shared→Prop):Cx:={ X with xe:=E }
abbrev Cx.nox (X:Cx):Cx:=X.wish fun _ _=>False
theorem Cx.Ok.wish {X:Cx} (ok:X.Ok) (E:Value→Shared→Prop):(X.wish E).Ok :=
 ⟨ok.mod,ok.kind,ok.glob,ok.blt,ok.above,ok.inj,ok.has,ok.cab,ok.hd,ok.frames,ok.stk,ok.exf,ok.bs,ok.bsz,ok.noex,ok.exfs,ok.funs,ok.frf⟩
theorem Cx.Ok.unwish {X:Cx} {E:Value→Shared→Prop} (ok:(X.wish E).Ok):X.Ok :=
 ⟨ok.mod,ok.kind,ok.glob,ok.blt,ok.above,ok.inj,ok.has,ok.cab,ok.hd,ok.frames,ok.stk,ok.exf,ok.bs,ok.bsz,ok.noex,ok.exfs,ok.funs,ok.frf⟩
section
variable {X:Cx} {pins:List (Addr×Obj)} {σ:St} {H:Hp} {s:Shared} {E:Value→Shared→Prop}
theorem Inv.wish (I:Inv X pins σ H s) (E:Value→Shared→Prop):Inv (X.wish E) pins σ H s:=⟨I.ok.wish E,I.os,I.bare,I.base,I.loc,I.cell,I.free,I.freeC,I.pin,I.hok,I.len⟩
theorem Inv.unwish (I:Inv (X.wish E) pins σ H s):Inv X pins σ H s:=⟨I.ok.unwish,I.os,I.bare,I.base,I.loc,I.cell,I.free,I.freeC,I.pin,I.hok,I.len⟩
theorem SP.unwish {D:Ends} {f:Flow} {s':Shared} (h:SP (X.wish E) pins D f s'):SP X pins D f s':=by
 cases f with
 | next=>obtain ⟨σ',H',I,q⟩:=h; exact ⟨σ',H',I.unwish,q⟩
 | brk=>obtain ⟨σ',H',I,q⟩:=h; exact ⟨σ',H',I.unwish,q⟩
 | cont=>obtain ⟨σ',H',I,q⟩:=h; exact ⟨σ',H',I.unwish,q⟩
 | ret u=>obtain ⟨v,σ',H',I,r,q⟩:=h; exact ⟨v,σ',H',I.unwish,r,q⟩
theorem PE.nox {e:Expr} {t:TE} (h:PE X.nox e t):PE X e t:=fun pins s σ H Q I hw =>
 wpAny_mono (h pins s σ H Q (I.wish _) hw) (fun _ _ ⟨v,H',I',r,q⟩=>⟨v,H',I'.unwish,r,q⟩) fun _ _ z=>False.elim z
theorem PT.nox {e:Expr} {t:TT} (h:PT X.nox e t):PT X e t:=fun pins s σ H Q I hw =>
 wpAny_mono (h pins s σ H Q (I.wish _) hw) (fun _ _ ⟨H',I',q⟩=>⟨H',I'.unwish,q⟩) fun _ _ z=>False.elim z
theorem PSs.nox {st:List Stmt} {t:TS} (h:PSs X.nox st t):PSs X st t:=fun pins s σ H D I hw =>
 wpAny_mono (h pins s σ H D (I.wish _) hw) (fun _ _ q=>q.unwish) fun _ _ z=>False.elim z
end
section
variable {X:Cx} {st:Stmt} {rest:List Stmt} {t u:TS} {e:Expr} {te:TE} {pos:Pos}
def tNext:TS:=fun D σ H=>D.nx σ H
def tSeq (t u:TS):TS:=fun D σ H=>t { D with nx:=u D } σ H
theorem pss_nil:PSs X [] tNext:=fun _ _ σ H _ I h=>wpAny_execs_nil ⟨σ,H,I,h⟩
theorem pss_cons (h1:PS X st t) (h2:PSs X rest u):PSs X (st :: rest) (tSeq t u):=by
 intro pins s σ H D I h
 refine wpAny_execs_cons (thn (h1 pins s σ H { D with nx:=u D } I h) fun f s1 q=>?_)
 cases f with
 | next =>
  obtain ⟨σ',H',I',q⟩:=q
  exact h2 pins s1 σ' H' D I' q
 | ret v=>exact q
 | brk=>exact q
 | cont=>exact q
theorem pss_one (h1:PS X st t):PSs X [st] t:=by
 intro pins s σ H D I h
 refine wpAny_execs_cons (thn (h1 pins s σ H D I h) fun f s1 q=>?_)
 cases f with
 | next=>exact wpAny_execs_nil q
 | ret v=>exact q
 | brk=>exact q
 | cont=>exact q
theorem Inv.quiet {pins:List (Addr×Obj)} {σ:St} {H:Hp} {s:Shared} (I:Inv X pins σ H s):interactive X.env = false:=by simp [interactive,I.ok.kind]
def tDrop (te:TE):TS:=fun D σ H=>te σ H fun _ H1=>D.nx σ H1
theorem ps_expr (he:PE X e te) (hs:swapsWith e none pos.line X.env = pure false:=by rfl):PS X (.Expr e pos) (tDrop te):=by
 intro pins s σ H D I h
 exact wpAny_Expr_any (thn (he pins s σ H _ I h) fun v s1 ⟨x,H1,I1,r1,q1⟩=>⟨σ,H1,I1,q1⟩) I.quiet hs
def tRet (te:TE):TS:=fun D σ H=>te σ H D.rt
theorem ps_ret (he:PE X e te):PS X (.Return (some e) pos) (tRet te):=by
 intro pins s σ H D I h
 exact wpAny_Return_some (thn (he pins s σ H _ I h) fun v s1 ⟨x,H1,I1,r1,q1⟩=>⟨x,σ,H1,I1,r1,q1⟩)
def tIfS (c:TT) (t u:TS):TS:=fun D σ H=>c σ H fun b H1=>if b = true then t D σ H1 else u D σ H1
theorem ps_if {c:Expr} {a b:List Stmt} {tc:TT} (hc:PT X c tc) (ha:PSs X a t) (hb:PSs X b u):PS X (.If c a b pos) (tIfS tc t u):=by
 intro pins s σ H D I h
 refine wpAny_If (thn (hc pins s σ H _ I h) fun d s1 ⟨H1,I1,q1⟩=>?_)
 cases d with
 | true=>exact ha pins s1 σ H1 D I1 q1
 | false=>exact hb pins s1 σ H1 D I1 q1
def tNever:TS:=fun _ _ _=>False
theorem pss_never {sts:List Stmt}:PSs X sts tNever:=fun _ _ _ _ _ _ h=>h.elim
end
abbrev TG:=V→St→Hp→(St→Hp→Prop)→Prop
abbrev TGs:=List V→St→Hp→(St→Hp→Prop)→Prop
def PG (X:Cx) (target:Expr) (t:TG):Prop :=
 ∀ (pins:List (Addr×Obj)) (s:Shared) (σ:St) (H:Hp) (v:V) (u:Value) (Q:St→Hp→Prop),Inv X pins σ H s→RelV v u→t v σ H Q →
  wpAny (model X.prog X.w) X.A (assign target X.env u) (fun _ s'=>∃ σ' H',Inv X pins σ' H' s'∧Q σ' H') X.xe s
def PGs (X:Cx) (ts:List Expr) (t:TGs):Prop :=
 ∀ (pins:List (Addr×Obj)) (s:Shared) (σ:St) (H:Hp) (vs:List V) (us:List Value) (Q:St→Hp→Prop),Inv X pins σ H s→Vals vs us→t vs σ H Q →
  wpAny (model X.prog X.w) X.A (assignInOrder ((assignEach ts X.env).map (·.2)) us) (fun _ s'=>∃ σ' H',Inv X pins σ' H' s'∧Q σ' H') X.xe s
abbrev TIp:=V→V→Hp→VK→Prop
def PIp (X:Cx) (op:Operator) (t:TIp):Prop :=
 ∀ (pins:List (Addr×Obj)) (s:Shared) (σ:St) (H:Hp) (x y:V) (v u:Value) (Q:VK),Inv X pins σ H s→RelV x v→RelV y u→t x y H Q →
  wpAny (model X.prog X.w) X.A (inplaceOp op v u) (EP X pins σ Q) X.xe s
section
variable {X:Cx} {pos:Pos}
def gName (i:Nat):TG:=fun v σ H Q=>Q (σ.set i (some v)) H
theorem pg_name {i:Nat} {x:Str} (hN:X.N.Nodup) (hi:X.N[i]? = some x) (hx:Loc X.env.scope x) (hf:X.fn x = true∨X.env.scope.names.lookup x = some .local:=by first | exact .inl rfl | exact .inr rfl | assumption):PG X (.Name x pos) (gName i):=by
 intro pins s σ H v u Q I r h
 exact wpAny_assign_Name (store_ok I hN hi hx r (fun s' I'=>⟨_,H,I',h⟩) hf)
def gNil:TGs:=fun vs σ H Q=>vs = []∧Q σ H
def gCons (t:TG) (u:TGs):TGs:=fun vs σ H Q=>∃ v r,vs = v :: r∧t v σ H fun σ' H'=>u r σ' H' Q
theorem pgs_nil:PGs X [] gNil:=by
 intro pins s σ H vs us Q I r h
 obtain ⟨e,h⟩:=h
 subst e
 cases r
 exact assignInOrder_nil ⟨σ,H,I,h⟩
theorem pgs_cons {e:Expr} {es:List Expr} {t:TG} {u:TGs} (h1:PG X e t) (h2:PGs X es u)
  (hs:(assignEach (e :: es) X.env).map (·.2) = assign e X.env :: (assignEach es X.env).map (·.2):=by rfl):PGs X (e :: es) (gCons t u):=by
 intro pins s σ H vs us Q I r h
 obtain ⟨v,vr,e1,h⟩:=h
 subst e1
 cases r with
 | cons r rr =>
  rw [hs]
  refine assignInOrder_cons (thn (h1 pins s σ H _ _ _ I r h) fun _ s1 ⟨σ1,H1,I1,q1⟩=>?_)
  exact h2 pins s1 σ1 H1 _ _ Q I1 rr q1
def gTup (K:PySem.W.Frag) (n:Nat) (t:TGs):TG:=fun v σ H Q=>∃ a xs,v = .ref a∧SqT K H a xs∧xs.length = n∧t xs σ H Q
theorem pg_tup {es:List Expr} {k:Nat} {t:TGs} {n:Nat} (hc:X.calm = true) (h:PGs X es t)
  (hn:(assignEach es X.env).length = n:=by rfl) (hst:(assignEach es X.env).findIdx? (·.1) = none:=by rfl):PG X (.Tuple es k pos) (gTup X.K n t):=by
 intro pins s σ H v u Q I r hw
 obtain ⟨a,xs,e1,hq,hl,hw⟩:=hw
 subst e1
 cases r
 obtain ⟨its,rv,ht,hz⟩:=I.tuple hq
 refine assign_Tuple_tuple (I.ok.hd hc) ht (by simp [hn,← hl,rv.length]) hst fun h' hx=>?_
 have I1:Inv X pins σ H { s with heap:=h' }:=I.kept (t':=s.toks) fun b o e=>hx b o (Nat.ne_of_lt (Heap.lt_size e)) e
 exact h pins _ σ H xs _ Q I1 (by simpa using rv) hw
def tAsg (te:TE) (g:TG):TS:=fun D σ H=>te σ H fun x H1=>g x σ H1 D.nx
theorem ps_set {i:Nat} {x:Str} {e:Expr} {te:TE} {pos':Pos} (hN:X.N.Nodup) (hi:X.N[i]? = some x) (hx:Loc X.env.scope x) (he:PE X e te) (hs:swapsWith e (some (.Name x pos')) pos.line X.env = pure false:=by rfl) (hf:X.fn x = true∨X.env.scope.names.lookup x = some .local:=by first | exact .inl rfl | exact .inr rfl | assumption) :
  PS X (.Assign [.Name x pos'] e pos) (tAsg te (gName i)):=by
 intro pins s σ H D I h
 refine wpAny_Assign_Name (thn (he pins s σ H _ I h) fun v s1 ⟨y,H1,I1,r1,q1⟩=>?_) hs
 exact store_ok I1 hN hi hx r1 (fun s2 I2=>⟨_,H1,I2,q1⟩) hf
def tPar (i j:Nat) (ta:TA):TS:=fun D σ H=>ta σ H fun vs H1=>∃ v w,vs = [v,w]∧D.nx ((σ.set i (some v)).set j (some w)) H1
theorem ps_par {i j:Nat} {x y:Str} {a b:Expr} {ta:TA} {px py pt:Pos} {kt k2 pt2} (hc:X.calm = true) (hN:X.N.Nodup) (hi:X.N[i]? = some x) (hj:X.N[j]? = some y) (hij:i ≠ j)
  (hx:X.env.scope.names.lookup x = some .local) (hy:X.env.scope.names.lookup y = some .local) (ha:PA X [a,b] ta)
  (hw:swappedStores [.Tuple [.Name x px,.Name y py] kt pt] (.Tuple [a,b] k2 pt2) X.env = pure (some [x,y]))
  (hs:swapsWithSole [.Tuple [.Name x px,.Name y py] kt pt] (.Tuple [a,b] k2 pt2) pos.line X.env = pure false:=by rfl) :
  PS X (.Assign [.Tuple [.Name x px,.Name y py] kt pt] (.Tuple [a,b] k2 pt2) pos) (tPar i j ta):=by
 intro pins s σ H D I h
 rw [exec_Assign_arm]
 refine wpAny_bind (wpAny_standAt ?_)
 rw [hs]
 refine wpAny_bind (wpAny_pure ?_)
 rw [if_neg (by decide)]
 refine wpAny_bind (Tuple_ (thn (ha _ pins s σ H _ I h) fun us s1 ⟨vs,H1,I1,r1,q1⟩=>?_))
 obtain ⟨v,w,e1,q1⟩:=q1
 subst e1
 obtain ⟨u1,u2,rfl,rv,rw'⟩:∃ u1 u2,us = [u1,u2]∧RelV v u1∧RelV w u2:=by
  cases r1 with
  | cons p q =>
   cases q with
   | cons p' q' =>
    cases q'
    exact ⟨_,_,rfl,p,p'⟩
 refine wpAny_newObj_type ?_ (by show 2≤sizeLine; decide)
 have I2:Inv X pins σ H1 { s1 with heap:=s1.heap.push { cls:=.type "tuple",data:=.seq [u1,u2].toArray } }:=I1.kept (t':=s1.toks) fun b o e=>Heap.get?_push_of_some _ e
 rw [hw]
 refine wpAny_bind (wpAny_pure ?_)
 show wpAny (model X.prog X.w) X.A (do rule "assign.swapped-stores"; let items ← unpackItems (.ref s1.heap.objs.size) 2 none; assignInOrder [fun v=>bindName X.env y v,fun v=>bindName X.env x v] items.reverse; pure Flow.next) _ _ _
 refine wpAny_bind (wpAny_rule (wpAny_bind (unpackItems_tuple (items:=#[u1,u2]) (I.ok.hd hc) (IsTup.new s1.heap _) fun h' hx'=>?_)))
 have I3:=I2.kept (h':=h') (t':=s1.toks) fun b o e=>hx' b o (Nat.ne_of_lt (Heap.lt_size e)) e
 show wpAny _ _ (assignInOrder [fun v=>bindName X.env y v,fun v=>bindName X.env x v] [u2,u1] >>= fun _=>pure Flow.next) _ _ _
 refine wpAny_bind (assignInOrder_cons (wpAny_bindName (store_ok I3 hN hj (.inl hy) rw' (fun s2 I4=>?_) (.inr hy))))
 refine assignInOrder_cons (wpAny_bindName (store_ok I4 hN hi (.inl hx) rv (fun s3 I5=>assignInOrder_nil (wpAny_pure ?_)) (.inr hx)))
 rw [List.set_comm _ _ (Ne.symm hij)] at I5
 exact ⟨_,H1,I5,q1⟩
def tAug (i:Nat) (te:TE) (ti:TIp):TS:=fun D σ H=>∃ x,σ[i]? = some (some x)∧te σ H fun y H1=>ti x y H1 fun z H2=>D.nx (σ.set i (some z)) H2
theorem ps_aug {i:Nat} {x:Str} {e:Expr} {te:TE} {op:Operator} {ti:TIp} {pos':Pos} (hN:X.N.Nodup) (hi:X.N[i]? = some x) (hx:Loc X.env.scope x) (he:PE X e te) (ho:PIp X op ti) (hf:X.fn x = true∨X.env.scope.names.lookup x = some .local:=by first | exact .inl rfl | exact .inr rfl | assumption) :
  PS X (.AugAssign (.Name x pos') op e pos) (tAug i te ti):=by
 intro pins s σ H D I h
 obtain ⟨v,e1,h⟩:=h
 obtain ⟨m,hn,hl⟩:=I.loc
 have vis:Vis X.env.scope x:=by rcases hx with k | k; exact .inl k; exact .inr (.inl k)
 obtain ⟨u,r,l⟩:=hl i x v hi e1 vis
 refine wpAny_AugAssign_Name ?_
 have go:wpAny (model X.prog X.w) X.A (eval e X.env) (fun w s₂=>wpAny (model X.prog X.w) X.A (inplaceOp op u w) (fun r s₃=>wpAny (model X.prog X.w) X.A (storeName X.env x r) (fun _=>SP X pins D .next) X.xe s₃) X.xe s₂) X.xe s:=by
  refine thn (he pins s σ H _ I h) fun w s1 ⟨y,H1,I1,r1,q1⟩=>?_
  refine thn (ho pins s1 σ H1 v y u w _ I1 r r1 q1) fun z s2 ⟨zv,H2,I2,r2,q2⟩=>?_
  exact store_ok I2 hN hi hx r2 (fun s3 I3=>⟨_,H2,I3,q2⟩) hf
 rcases l with ⟨hk,hm⟩ | ⟨hk,c,hc,hcell⟩
 ·exact wpAny_loadName_local I.ok.kind hk hn hm go
 ·rcases hk with hk | hk
  ·exact wpAny_loadName_cell I.ok.kind hk hc hcell go
  ·rcases hx with k | k
   ·have:X.env.scope.names.lookup x = some .free:=hk
    rw [k] at this; cases this
   ·have:X.env.scope.names.lookup x = some .free:=hk
    rw [k] at this; cases this
def ipI (f:Int→Int→Int):TIp:=fun x y H Q=>∃ i j,x = .int i∧y = .int j∧Q (.int (f i j)) H
theorem ip_add:PIp X .Add (ipI fun i j=>i+j):=by
 intro pins s σ H x y v u Q I r1 r2 h
 obtain ⟨i,j,e1,e2,q⟩:=h
 subst e1; subst e2
 obtain ⟨t,rfl⟩:=r1
 obtain ⟨t',rfl⟩:=r2
 exact iadd_int ⟨.int _,H,I.tok _,⟨_,rfl⟩,q⟩
end
section
variable {X:Cx} {pos:Pos}
def tWhile (c:TT) (tb:TS):TS:=fun D σ H=>∃ W:Nat→St→Hp→Prop,(∃ m,W m σ H)∧∀ m σ H,W m σ H →
 c σ H fun b H1=>if b = true then ∃ N:St→Hp→Prop,(∀ σ' H',N σ' H'→∃ m',m' < m∧W m' σ' H')∧tb { D with nx:=N,ct:=N,bk:=D.nx } σ H1 else D.nx σ H1
theorem ps_while {c:Expr} {body:List Stmt} {tc:TT} {tb:TS} (hp:PassesOwn (model X.prog X.w) X.A X.env X.xe) (hc:PT X c tc) (hb:PSs X body tb):PS X (.While c body [] pos) (tWhile tc tb):=by
 intro pins s σ H D I h
 obtain ⟨W,⟨m0,w0⟩,turn⟩:=h
 refine wpAny_While (codeAny_whileLoop (fun n s'=>∃ σ' H',Inv X pins σ' H' s'∧W n σ' H') ?_ m0 ⟨σ,H,I,w0⟩)
 rintro n s1 ⟨σ1,H1,I1,w1⟩
 refine wpAny_passesOwn hp (thn (hc pins s1 σ1 H1 _ I1 (turn n σ1 H1 w1)) fun b s2 ⟨H2,I2,q2⟩=>?_)
 cases b with
 | true =>
  obtain ⟨N,hN,q2⟩:=q2
  rw [if_pos rfl]
  refine wpAny_passesOwn hp (thn (hb pins s2 σ1 H2 _ I2 q2) fun f s3 q3=>?_)
  cases f with
  | next =>
   obtain ⟨σ3,H3,I3,n3⟩:=q3
   obtain ⟨m',hm,w3⟩:=hN σ3 H3 n3
   exact ⟨m',hm,σ3,H3,I3,w3⟩
  | cont =>
   obtain ⟨σ3,H3,I3,n3⟩:=q3
   obtain ⟨m',hm,w3⟩:=hN σ3 H3 n3
   exact ⟨m',hm,σ3,H3,I3,w3⟩
  | brk=>exact q3
  | ret v=>exact q3
 | false =>
  rw [if_neg Bool.false_ne_true]
  exact wpAny_execs_nil ⟨σ1,H2,I2,q2⟩
end
structure It where
 go:Nat→Hp→Prop
 yld:Nat→Hp→V→Hp→Prop
 stop:Nat→Hp→Prop
def FpOk (X:Cx) (pins:List (Addr×Obj)) (H:Hp) (b:Addr):Prop :=
 H b = none∧b ≠ X.env.locals∧b ∉ X.fs∧(b ∈ X.ex∨X.s₀.heap.objs.size≤b)∧(∀ x c,X.env.cells.lookup x = some c→c ≠ b)∧∀ p ∈ X.pn++pins,p.1 ≠ b
theorem Inv.fpOk {X:Cx} {pins:List (Addr×Obj)} {σ:St} {H H':Hp} {s:Shared} {b:Addr} (I:Inv X pins σ H s) (hb:s.heap.objs.size≤b) (hn:H' b = none):FpOk X pins H' b:=by
 refine ⟨hn,Nat.ne_of_gt (Nat.lt_of_lt_of_le I.lt hb),I.nofs hb,.inr (Nat.le_trans I.sz hb),fun x c e z=>?_,fun p hp z=>?_⟩
 ·obtain ⟨v,q⟩:=I.cell x c e
  exact absurd (Nat.lt_of_lt_of_le q.lt (by rw [z]; exact hb)) (Nat.lt_irrefl _)
 ·exact absurd (Nat.lt_of_lt_of_le (Heap.lt_size (I.pin p hp).1) (by rw [z]; exact hb)) (Nat.lt_irrefl _)
structure Turn (P:Program) (w:World) (K:PySem.W.Frag) (tg:Expr) (J:It) (fp:List Addr) (it:Addr) (tn:Nat→Heap→Prop):Prop where
 mem:it ∈ fp
 obj:∀ i h,tn i h→∀ b ∈ fp,∃ o,h.get? b = some o∧∀ v,o.data ≠ .cell v
 keep:∀ i h h',tn i h→(∀ b ∈ fp,∀ o,h.get? b = some o→h'.get? b = some o)→tn i h'
 item:∀ (X:Cx),X.prog = P→X.w = w→X.K = K→X.calm = true→∀ (i:Nat) (pins:List (Addr×Obj)) (s:Shared) (σ:St) (H:Hp) (E:Value→Shared→Prop),Inv X pins σ H s→(∀ b ∈ fp,FpOk X pins H b)→tn i s.heap→J.go i H →
  wpAny (model P w) X.A (pyNext (.ref it)) (fun r s1=>∃ u,r = some u ∧
   wpAny (model P w) X.A (letOwnedTupleGo tg (.ref it) u) (fun _ s2=>∃ x H',Inv X pins σ H' s2∧RelV x u∧J.yld i H x H'∧tn (i+1) s2.heap∧∀ b ∈ fp,H' b = none) E s1) E s
 done:∀ (X:Cx),X.prog = P→X.w = w→X.K = K→X.calm = true→∀ (i:Nat) (pins:List (Addr×Obj)) (s:Shared) (σ:St) (H:Hp) (E:Value→Shared→Prop),Inv X pins σ H s→(∀ b ∈ fp,FpOk X pins H b)→tn i s.heap→J.stop i H →
  wpAny (model P w) X.A (pyNext (.ref it)) (fun r s1=>r = none∧Inv X pins σ H s1) E s
 self:∀ (A:Around) (i:Nat) (s:Shared) (Q:Value→Shared→Prop) (E:Value→Shared→Prop),tn i s.heap→Q (.ref it) s→wpAny (model P w) A (pyIter (.ref it)) Q E s
abbrev TI:=St→Hp→(It→Hp→Prop)→Prop
def PIE (X:Cx) (pins:List (Addr×Obj)) (σ:St) (tg:Expr) (R:It→Hp→Prop) (itv:Value) (s2:Shared):Prop :=
 ∃ (it:Addr) (fp:List Addr) (tn:Nat→Heap→Prop) (J:It) (H':Hp),itv = .ref it∧Inv X pins σ H' s2∧Turn X.prog X.w X.K tg J fp it tn∧tn 0 s2.heap∧(∀ b ∈ fp,FpOk X pins H' b)∧R J H'
def PI (X:Cx) (tg iter:Expr) (wi:TI):Prop :=
 ∀ (pins:List (Addr×Obj)) (s:Shared) (σ:St) (H:Hp) (R:It→Hp→Prop),Inv X pins σ H s→wi σ H R →
  wpAny (model X.prog X.w) X.A (eval iter X.env) (fun v s1=>wpAny (model X.prog X.w) X.A (pyIter v) (PIE X pins σ tg R) X.xe s1) X.xe s
theorem go_of {M:Model} {A:Around} {E:Value→Shared→Prop} {s:Shared} {tg:Expr} {it:Addr} {u:Value} {o:Obj} {n:String} {vs:Array Value} {Q:Unit→Shared→Prop} (ho:s.heap.get? it = some o) (hc:o.cls = .type n) (hd:o.data = .fields vs)
    (hn:["enumerate","zip","dict_itemiterator","dict_reverseitemiterator","odict_iterator","itertools.zip_longest","itertools.pairwise"].contains n = false) (hQ:Q () s):wpAny M A (letOwnedTupleGo tg (.ref it) u) Q E s:=by
  unfold letOwnedTupleGo
  cases tg <;> first
    | exact wpAny_pure hQ
    | (cases u <;> first
        | exact wpAny_pure hQ
        | (refine wpAny_bind (wpAny_load ho ?_)
           rw [hc,hd]
           show wpAny M A (if (["enumerate","zip","dict_itemiterator","dict_reverseitemiterator","odict_iterator","itertools.zip_longest","itertools.pairwise"].contains n && vs[0]? == some (rawInt _)) = true then _ else _) Q E s
           rw [if_neg (by intro h; rw [hn,Bool.false_and] at h; cases h)]
           exact wpAny_pure hQ))
def Itl (K:PySem.W.Frag) (a:Addr):It :=
 ⟨fun i H=>∃ xs x,SqL K H a xs∧xs[i]? = some x,fun i H x H'=>H' = H∧∀ xs,SqL K H a xs→xs[i]? = some x,fun i H=>∃ xs,SqL K H a xs∧xs.length≤i⟩
def Itt (K:PySem.W.Frag) (a:Addr):It :=
 ⟨fun i H=>∃ xs x,SqT K H a xs∧xs[i]? = some x,fun i H x H'=>H' = H∧∀ xs,SqT K H a xs→xs[i]? = some x,fun i H=>∃ xs,SqT K H a xs∧xs.length≤i⟩
def Itr (lo:Int) (n:Nat):It:=⟨fun i _=>i < n,fun i H x H'=>H' = H∧x = .int (lo+i),fun i _=>n≤i⟩
theorem turn_list {P:Program} {w:World} {K:PySem.W.Frag} {tg:Expr} (a it:Addr):Turn P w K tg (Itl K a) [it] it (fun i h=>h.IsListIter it a i) where
 mem:=by simp
 obj:=fun i h st b hb=>by
  have e:b = it:=by simpa using hb
  subst e
  obtain ⟨o,e,c,d⟩:=st
  exact ⟨o,e,fun v z=>by rw [d] at z; cases z⟩
 keep:=fun i h h' st k=>st.at fun o e=>k it (by simp) o e
 item:=by
  intro X hP hw hK hc i pins s σ H E I hf st hg
  subst hP hw hK
  obtain ⟨xs,x,hq,hx⟩:=hg
  obtain ⟨its,rv,p,hz⟩:=I.list hq
  obtain ⟨u,hu,ru⟩:=rv.get hx
  obtain ⟨f0,f1,f2,f3,f4,f5⟩:=hf it (by simp)
  refine wpAny_pyNext_list_item st p.isList (x:=u) (by simpa using hu) fun h' st' sb=>?_
  have I1:Inv X pins σ H { s with heap:=h' }:=I.turned (t':=s.toks) (fun b o hb e=>(sb.2 b hb).trans e) f0 f1 f3 f4 f5
  obtain ⟨o,e,c,d⟩:=id st'
  exact ⟨u,rfl,go_of (s:={ s with heap:=h' }) e c d (by decide) ⟨x,H,I1,ru,⟨rfl,fun ys hy=>by rw [I.list_inj hy hq]; exact hx⟩,st',fun b hb=>(hf b hb).1⟩⟩
 done:=by
  intro X hP hw hK hc i pins s σ H E I hf st hg
  subst hP hw hK
  obtain ⟨xs,hq,hx⟩:=hg
  obtain ⟨its,rv,p,hz⟩:=I.list hq
  obtain ⟨f0,f1,f2,f3,f4,f5⟩:=hf it (by simp)
  have hl:=rv.length
  exact wpAny_pyNext_list_end (I.ok.hd hc) st p.isList (by simp; omega) fun h' eb=>⟨rfl,I.turned (t':=s.toks) (fun b o hb e=>eb b o hb e) f0 f1 f3 f4 f5⟩
 self:=fun _ _ _ _ _ st h=>wpAny_pyIter_listiter st h
theorem turn_tuple {P:Program} {w:World} {K:PySem.W.Frag} {tg:Expr} (a it:Addr):Turn P w K tg (Itt K a) [it] it (fun i h=>h.IsTupleIter it a i) where
 mem:=by simp
 obj:=fun i h st b hb=>by
  have e:b = it:=by simpa using hb
  subst e
  obtain ⟨o,e,c,d⟩:=st
  exact ⟨o,e,fun v z=>by rw [d] at z; cases z⟩
 keep:=fun i h h' st k=>st.at fun o e=>k it (by simp) o e
 item:=by
  intro X hP hw hK hc i pins s σ H E I hf st hg
  subst hP hw hK
  obtain ⟨xs,x,hq,hx⟩:=hg
  obtain ⟨its,rv,p,hz⟩:=I.tuple hq
  obtain ⟨u,hu,ru⟩:=rv.get hx
  obtain ⟨f0,f1,f2,f3,f4,f5⟩:=hf it (by simp)
  refine wpAny_pyNext_tuple_item st (show s.heap.IsTuple a its.toArray from p) (x:=u) (by simpa using hu) fun h' st' sb=>?_
  have I1:Inv X pins σ H { s with heap:=h' }:=I.turned (t':=s.toks) (fun b o hb e=>(sb.2 b hb).trans e) f0 f1 f3 f4 f5
  obtain ⟨o,e,c,d⟩:=id st'
  exact ⟨u,rfl,go_of (s:={ s with heap:=h' }) e c d (by decide) ⟨x,H,I1,ru,⟨rfl,fun ys hy=>by rw [I.tuple_inj hy hq]; exact hx⟩,st',fun b hb=>(hf b hb).1⟩⟩
 done:=by
  intro X hP hw hK hc i pins s σ H E I hf st hg
  subst hP hw hK
  obtain ⟨xs,hq,hx⟩:=hg
  obtain ⟨its,rv,p,hz⟩:=I.tuple hq
  obtain ⟨f0,f1,f2,f3,f4,f5⟩:=hf it (by simp)
  have hl:=rv.length
  exact wpAny_pyNext_tuple_end (I.ok.hd hc) st (show s.heap.IsTuple a its.toArray from p) (by simp; omega) fun h' eb=>⟨rfl,I.turned (t':=s.toks) (fun b o hb e=>eb b o hb e) f0 f1 f3 f4 f5⟩
 self:=fun _ _ _ _ _ st h=>wpAny_pyIter_tupleiter st h
theorem turn_range {P:Program} {w:World} {K:PySem.W.Frag} {tg:Expr} (it:Addr) (lo:Int) (n:Nat):Turn P w K tg (Itr lo n) [it] it (fun i h=>IsRangeIter h it (lo+(i:Nat) * 1) ((n:Int) - (i:Nat)) 1) where
 mem:=by simp
 obj:=fun i h st b hb=>by
  have e:b = it:=by simpa using hb
  subst e
  exact ⟨_,st,fun v z=>by
   have z':Data.fields _ = Data.cell v:=z
   cases z'⟩
 keep:=fun i h h' st k=>k it (by simp) _ st
 item:=by
  intro X hP hw hK hc i pins s σ H E I hf st hg
  subst hP hw hK
  obtain ⟨f0,f1,f2,f3,f4,f5⟩:=hf it (by simp)
  have W:=Walks.range (prog:=X.prog) (w:=X.w) (I.ok.hd hc) it lo 1 n
  refine W.item i s _ _ hg st fun v h' tk hv st' kk=>?_
  obtain ⟨t,rfl⟩:=hv
  have I1:Inv X pins σ H { s with heap:=h',toks:=tk }:=I.turned (fun b o hb e=>kk b o (by simpa using hb) e) f0 f1 f3 f4 f5
  refine ⟨_,rfl,go_of (s:={ s with heap:=h',toks:=tk }) (n:="range_iterator") st' rfl rfl (by decide) ⟨.int (lo+i),H,I1,⟨t,?_⟩,⟨rfl,rfl⟩,st',fun b hb=>(hf b hb).1⟩⟩
  rw [Int.mul_one]
 done:=by
  intro X hP hw hK hc i pins s σ H E I hf st hg
  subst hP hw hK
  obtain ⟨f0,f1,f2,f3,f4,f5⟩:=hf it (by simp)
  exact wpAny_pyNext_range_end (I.ok.hd hc) st (by have:n≤i:=hg; omega) fun h' eb=>⟨rfl,I.turned (t':=s.toks) (fun b o hb e=>eb b o hb e) f0 f1 f3 f4 f5⟩
 self:=fun _ _ _ _ _ st h=>wpAny_pyIter_rangeiter st h
end L2
namespace L2
open PySem PySem.Spec PyProof.Rows
section
variable {X:Cx} {tg:Expr}
def iList (K:PySem.W.Frag) (tl:TE):TI:=fun σ H R=>tl σ H fun x H1=>∃ a,x = .ref a∧(∃ xs,SqL K H1 a xs)∧R (Itl K a) H1
def iTup (K:PySem.W.Frag) (tl:TE):TI:=fun σ H R=>tl σ H fun x H1=>∃ a,x = .ref a∧(∃ xs,SqT K H1 a xs)∧R (Itt K a) H1
theorem pi_list {l:Expr} {tl:TE} (hl:PE X l tl):PI X tg l (iList X.K tl):=by
 intro pins s σ H R I h
 refine thn (hl pins s σ H _ I h) fun v s1 ⟨x,H1,I1,r1,q1⟩=>?_
 obtain ⟨a,e,⟨xs,hq⟩,q⟩:=q1
 subst e
 cases r1
 obtain ⟨its,rv,p,hz⟩:=I1.list hq
 refine wpAny_pyIter_list p.isList ?_
 refine ⟨s1.heap.objs.size,[s1.heap.objs.size],_,_,H1,rfl,I1.kept (t':=s1.toks) fun b o e=>Heap.get?_push_of_some _ e,turn_list a _,⟨_,Heap.get?_push_size _ rfl,rfl,rfl⟩,fun b hb=>?_,q⟩
 have e:b = s1.heap.objs.size:=by simpa using hb
 subst e
 exact I1.fpOk (Nat.le_refl _) (I1.hok.fresh (Nat.le_refl _))
theorem pi_tup {l:Expr} {tl:TE} (hl:PE X l tl):PI X tg l (iTup X.K tl):=by
 intro pins s σ H R I h
 refine thn (hl pins s σ H _ I h) fun v s1 ⟨x,H1,I1,r1,q1⟩=>?_
 obtain ⟨a,e,⟨xs,hq⟩,q⟩:=q1
 subst e
 cases r1
 obtain ⟨its,rv,p,hz⟩:=I1.tuple hq
 refine wpAny_pyIter_tuple (show s1.heap.IsTuple a its.toArray from p) ?_
 refine ⟨s1.heap.objs.size,[s1.heap.objs.size],_,_,H1,rfl,I1.kept (t':=s1.toks) fun b o e=>Heap.get?_push_of_some _ e,turn_tuple a _,⟨_,Heap.get?_push_size _ rfl,rfl,rfl⟩,fun b hb=>?_,q⟩
 have e:b = s1.heap.objs.size:=by simpa using hb
 subst e
 exact I1.fpOk (Nat.le_refl _) (I1.hok.fresh (Nat.le_refl _))
theorem range_it {pins:List (Addr×Obj)} {σ:St} {H:Hp} {s:Shared} {R:It→Hp→Prop} {E:Value→Shared→Prop} {lo hi:Int} {t u v:Tok} {tk:Nat} (I:Inv X pins σ H s) (h1:-(2 ^ 62)≤lo) (h2:lo < 2 ^ 62) (h3:-(2 ^ 62)≤hi) (h4:hi < 2 ^ 62)
  (q:R (Itr lo (hi - lo).toNat) H):wpAny (model X.prog X.w) X.A (pyIter (.ref s.heap.objs.size)) (PIE X pins σ tg R) E { s with heap:=s.heap.push { cls:=.type "range",data:=.fields #[.int lo t,.int hi u,.int 1 v] },toks:=tk }:=by
 refine wpAny_pyIter_range (IsRange.new ..) (small_one h1 h2 h3 h4) ?_
 have I1:Inv X pins σ H { s with heap:=s.heap.push { cls:=.type "range",data:=.fields #[.int lo t,.int hi u,.int 1 v] },toks:=tk }:=I.kept fun b o e=>Heap.get?_push_of_some _ e
 refine ⟨(s.heap.push { cls:=.type "range",data:=.fields #[.int lo t,.int hi u,.int 1 v] }).objs.size,[(s.heap.push { cls:=.type "range",data:=.fields #[.int lo t,.int hi u,.int 1 v] }).objs.size],_,_,H,rfl,
  I1.kept (t':=tk) fun b o e=>Heap.get?_push_of_some _ e,turn_range _ lo (hi - lo).toNat,?_,fun b hb=>?_,q⟩
 ·have e1:lo+((0:Nat):Int) * 1 = lo:=by simp
  have e2:(((hi - lo).toNat:Nat):Int) - ((0:Nat):Int) = Builtin.Range.rangeSize lo hi 1:=by rw [rangeSize_one]; split <;> omega
  show IsRangeIter _ _ (lo+((0:Nat):Int) * 1) ((((hi - lo).toNat:Nat):Int) - ((0:Nat):Int)) 1
  rw [e1,e2]
  exact Heap.get?_push_size _ rfl
 ·have e:b = (s.heap.push { cls:=.type "range",data:=.fields #[.int lo t,.int hi u,.int 1 v] }).objs.size:=by simpa using hb
  subst e
  exact I1.fpOk (Nat.le_refl _) (I1.hok.fresh (Nat.le_refl _))
def iRng1 (ta:TA):TI:=fun σ H R=>ta σ H fun vs H1=>∃ j:Int,vs = [.int j]∧-(2 ^ 62)≤j∧j < 2 ^ 62∧R (Itr 0 j.toNat) H1
theorem pi_range1 {a:Expr} {ta:TA} {p pos:Pos} (hg:Gl X "range") (hm:X.mg "range" = none) (ha:PA X [a] ta) (hs:starEach [a] X.env = [(false,eval a X.env)]:=by rfl):PI X tg (.Call (.Name "range" p) [a] [] pos) (iRng1 ta):=by
 intro pins s σ H R I h
 refine Call_ (ld_blt I hg hm boot_range (PyProof.Rows.callWith_type1 (thn (ha pos pins s σ H _ I h) fun us s1 ⟨vs,H1,I1,r1,q1⟩=>?_) hs rfl))
 obtain ⟨j,e,q1,q2,q⟩:=q1
 subst e
 cases r1 with
 | cons r rr =>
  cases rr
  obtain ⟨t,rfl⟩:=r
  exact call_range_1 (range_it I1 (by omega) (by omega) q1 q2 (by simpa using q))
def tFor (wi:TI) (g:TG) (tb:TS):TS:=fun D σ H=>wi σ H fun J H1=>∃ W:Nat→Nat→St→Hp→Prop,(∃ m,W 0 m σ H1)∧∀ i m σ H,W i m σ H →
 (J.stop i H∧D.nx σ H)∨(J.go i H∧∃ N:St→Hp→Prop,(∀ σ' H',N σ' H'→∃ m',m' < m∧W (i+1) m' σ' H')∧∀ x H',J.yld i H x H'→g x σ H' fun σ2 H2=>tb { D with nx:=N,ct:=N,bk:=D.nx } σ2 H2)
def pinsAt (fp:List Addr) (h:Heap):List (Addr×Obj):=fp.filterMap fun b=>(h.get? b).map fun o=>(b,o)
theorem mem_pinsAt {fp:List Addr} {h:Heap} {b:Addr} {o:Obj} (hb:b ∈ fp) (e:h.get? b = some o):(b,o) ∈ pinsAt fp h:=List.mem_filterMap.mpr ⟨b,hb,by rw [e]; rfl⟩
theorem of_pinsAt {fp:List Addr} {h:Heap} {p:Addr×Obj} (hp:p ∈ pinsAt fp h):p.1 ∈ fp∧h.get? p.1 = some p.2:=by
 obtain ⟨b,hb,e⟩:=List.mem_filterMap.mp hp
 cases q:h.get? b with
 | none=>rw [q] at e; cases e
 | some o =>
  rw [q] at e
  have e':(b,o) = p:=Option.some.inj e
  subst e'
  exact ⟨hb,q⟩
theorem Inv.pinned {pins:List (Addr×Obj)} {σ:St} {H:Hp} {s:Shared} {fp:List Addr} (I:Inv X pins σ H s) (hf:∀ b ∈ fp,FpOk X pins H b) (ho:∀ b ∈ fp,∃ o,s.heap.get? b = some o∧∀ v,o.data ≠ .cell v):Inv X (pins++pinsAt fp s.heap) σ H s :=
 I.pins_of fun p hp=>(List.mem_append.mp hp).elim (fun z=>I.pin p (List.mem_append_right _ z)) fun z=>by
  obtain ⟨hb,e⟩:=of_pinsAt z
  obtain ⟨f0,f1,f2,_⟩:=hf p.1 hb
  obtain ⟨o,e',d⟩:=ho p.1 hb
  rw [e] at e'; cases e'
  exact ⟨e,f0,f1,f2,d⟩
theorem Inv.unpinned {pins pl:List (Addr×Obj)} {σ:St} {H:Hp} {s:Shared} (I:Inv X (pins++pl) σ H s):Inv X pins σ H s:=I.pins_of fun p hp=>I.pin p (List.mem_append_right _ (List.mem_append_left _ hp))
theorem ps_for {iter:Expr} {body:List Stmt} {wi:TI} {g:TG} {tb:TS} {pos:Pos} (hp:PassesOwn (model X.prog X.w) X.A X.env X.xe) (hc:X.calm = true) (hi:PI X tg iter wi) (hg:PG X tg g) (hb:PSs X body tb)
  (hs:∀ x,foldedSetIterable iter X.env x = pure x:=by intro _; rfl):PS X (.For tg iter body [] pos) (tFor wi g tb):=by
 intro pins s σ H D I h
 refine wpAny_For (thn (hi pins s σ H _ I h) fun v s1 h1=>thn h1 fun itv s2 h2=>?_) hs
 obtain ⟨it,fp,tn,J,H2,e,I2,T,st2,f2,W,⟨m0,w0⟩,turn⟩:=h2
 subst e
 have stat:∀ {H':Hp},(∀ b ∈ fp,H' b = none)→∀ b ∈ fp,FpOk X pins H' b:=fun hn b hb=>⟨hn b hb,(f2 b hb).2⟩
 refine codeAny_forLoop_any (fun n s'=>∃ i σ' H',Inv X pins σ' H' s'∧tn i s'.heap∧(∀ b ∈ fp,H' b = none)∧W i n σ' H') ?_ m0 ⟨0,σ,H2,I2,st2,fun b hb=>(f2 b hb).1,w0⟩
 rintro n s3 ⟨i,σ3,H3,I3,st3,fr3,w3⟩
 rcases turn i n σ3 H3 w3 with ⟨stop,qn⟩ | ⟨go,N,hN,step⟩
 ·refine wpAny_passesOwn hp (thn (T.done X rfl rfl rfl hc i pins s3 σ3 H3 X.xe I3 (stat fr3) st3 stop) fun r s4 ⟨hr,I4⟩=>?_)
  subst hr
  exact wpAny_execs_nil ⟨σ3,H3,I4,qn⟩
 ·refine wpAny_passesOwn hp (thn (T.item X rfl rfl rfl hc i pins s3 σ3 H3 X.xe I3 (stat fr3) st3 go) fun r s4 ⟨u,hr,h4⟩=>?_)
  subst hr
  refine wpAny_passesOwn hp (thn h4 fun _ s5 ⟨x,H5,I5,r5,y5,st5,fr5⟩=>?_)
  have I5':=I5.pinned (stat fr5) (T.obj _ _ st5)
  refine wpAny_passesOwn hp (thn (hg _ s5 σ3 H5 x u _ I5' r5 (step x H5 y5)) fun _ s6 ⟨σ6,H6,I6,q6⟩=>?_)
  refine wpAny_passesOwn hp (thn (hb _ s6 σ6 H6 _ I6 q6) fun f s7 q7=>?_)
  have again:∀ {σ7:St} {H7:Hp},Inv X (pins++pinsAt fp s5.heap) σ7 H7 s7→N σ7 H7→∃ m,m < n∧∃ i σ' H',Inv X pins σ' H' s7∧tn i s7.heap∧(∀ b ∈ fp,H' b = none)∧W i m σ' H':=fun {σ7 H7} I7 n7=>by
   obtain ⟨m',hm,w7⟩:=hN σ7 H7 n7
   refine ⟨m',hm,i+1,σ7,H7,I7.unpinned,T.keep _ _ _ st5 fun b hb o e=>(I7.pin (b,o) (List.mem_append_right _ (List.mem_append_right _ (mem_pinsAt hb e)))).1,fun b hb=>?_,w7⟩
   obtain ⟨o,e,d⟩:=T.obj _ _ st5 b hb
   exact (I7.pin (b,o) (List.mem_append_right _ (List.mem_append_right _ (mem_pinsAt hb e)))).2.1
  cases f with
  | next=>obtain ⟨σ7,H7,I7,n7⟩:=q7; exact again I7 n7
  | cont=>obtain ⟨σ7,H7,I7,n7⟩:=q7; exact again I7 n7
  | brk=>obtain ⟨σ7,H7,I7,q7⟩:=q7; exact ⟨σ7,H7,I7.unpinned,q7⟩
  | ret v=>obtain ⟨x7,σ7,H7,I7,r7,q7⟩:=q7; exact ⟨x7,σ7,H7,I7.unpinned,r7,q7⟩
end
theorem for_list {K:PySem.W.Frag} {a:Addr} {xs:List V} {g:TG} {tb:TS} {D:Ends} {σ:St} {H:Hp} (Pv:Nat→St→Hp→Prop) (h0:Pv 0 σ H) (hl:∀ i σ H,i≤xs.length→Pv i σ H→SqL K H a xs)
  (hs:∀ i x σ H,xs[i]? = some x→Pv i σ H→g x σ H fun σ2 H2=>tb { D with nx:=Pv (i+1),ct:=Pv (i+1),bk:=D.nx } σ2 H2) (hd:∀ σ H,Pv xs.length σ H→D.nx σ H) :
  ∃ W:Nat→Nat→St→Hp→Prop,(∃ m,W 0 m σ H)∧∀ i m σ H,W i m σ H →
   ((Itl K a).stop i H∧D.nx σ H)∨((Itl K a).go i H∧∃ N:St→Hp→Prop,(∀ σ' H',N σ' H'→∃ m',m' < m∧W (i+1) m' σ' H')∧∀ x H',(Itl K a).yld i H x H'→g x σ H' fun σ2 H2=>tb { D with nx:=N,ct:=N,bk:=D.nx } σ2 H2):=by
 refine ⟨fun i m σ H=>m = xs.length - i∧i≤xs.length∧Pv i σ H,⟨xs.length,by simp,Nat.zero_le _,h0⟩,?_⟩
 rintro i m σ H ⟨rfl,hi,p⟩
 have q:=hl i σ H hi p
 by_cases hlt:i < xs.length
 ·refine .inr ⟨⟨xs,xs[i],q,by simp [hlt]⟩,Pv (i+1),fun σ' H' p'=>⟨xs.length - (i+1),by omega,rfl,hlt,p'⟩,fun x H' y=>?_⟩
  obtain ⟨e,y⟩:=y
  subst e
  exact hs i x σ _ (y xs q) p
 ·have e:i = xs.length:=by omega
  subst e
  exact .inl ⟨⟨xs,q,Nat.le_refl _⟩,hd σ H p⟩
theorem for_range {lo:Int} {n:Nat} {g:TG} {tb:TS} {D:Ends} {σ:St} {H:Hp} (Pv:Nat→St→Hp→Prop) (h0:Pv 0 σ H)
  (hs:∀ i σ H,i < n→Pv i σ H→g (.int (lo+i)) σ H fun σ2 H2=>tb { D with nx:=Pv (i+1),ct:=Pv (i+1),bk:=D.nx } σ2 H2) (hd:∀ σ H,Pv n σ H→D.nx σ H) :
  ∃ W:Nat→Nat→St→Hp→Prop,(∃ m,W 0 m σ H)∧∀ i m σ H,W i m σ H →
   ((Itr lo n).stop i H∧D.nx σ H)∨((Itr lo n).go i H∧∃ N:St→Hp→Prop,(∀ σ' H',N σ' H'→∃ m',m' < m∧W (i+1) m' σ' H')∧∀ x H',(Itr lo n).yld i H x H'→g x σ H' fun σ2 H2=>tb { D with nx:=N,ct:=N,bk:=D.nx } σ2 H2):=by
 refine ⟨fun i m σ H=>m = n - i∧i≤n∧Pv i σ H,⟨n,by simp,Nat.zero_le _,h0⟩,?_⟩
 rintro i m σ H ⟨rfl,hi,p⟩
 by_cases hlt:i < n
 ·refine .inr ⟨hlt,Pv (i+1),fun σ' H' p'=>⟨n - (i+1),by omega,rfl,hlt,p'⟩,fun x H' y=>?_⟩
  obtain ⟨e,y⟩:=y
  subst e y
  exact hs i σ _ hlt p
 ·have e:i = n:=by omega
  subst e
  exact .inl ⟨Nat.le_refl _,hd σ H p⟩
end L2
namespace L2
open PySem PySem.Spec PyProof.Rows
abbrev R2:=V→V→Hp→VK→Prop
def OpR (X:Cx) (f:Value→Value→Sem Value) (r:R2):Prop :=
 ∀ (pins:List (Addr×Obj)) (s:Shared) (σ:St) (H:Hp) (x y:V) (v u:Value) (Q:VK),Inv X pins σ H s→RelV x v→RelV y u→r x y H Q →
  wpAny (model X.prog X.w) X.A (f v u) (EP X pins σ Q) X.xe s
def UnR (X:Cx) (f:Value→Sem Value) (r:V→Hp→VK→Prop):Prop :=
 ∀ (pins:List (Addr×Obj)) (s:Shared) (σ:St) (H:Hp) (x:V) (v:Value) (Q:VK),Inv X pins σ H s→RelV x v→r x H Q →
  wpAny (model X.prog X.w) X.A (f v) (EP X pins σ Q) X.xe s
def CallR (X:Cx) (f:Value) (r:List V→Hp→VK→Prop):Prop :=
 ∀ (pins:List (Addr×Obj)) (s:Shared) (σ:St) (H:Hp) (xs:List V) (us:List Value) (Q:VK),Inv X pins σ H s→Vals xs us→r xs H Q →
  wpAny (model X.prog X.w) X.A (call f us) (EP X pins σ Q) X.xe s
def tOp (r:R2) (ta tb:TE):TE:=fun σ H Q=>ta σ H fun x H1=>tb σ H1 fun y H2=>r x y H2 Q
def tUn (r:V→Hp→VK→Prop) (ta:TE):TE:=fun σ H Q=>ta σ H fun x H1=>r x H1 Q
def rI (C:Int→Int→Prop) (g:Int→Int→V):R2:=fun x y H Q=>∃ i j,x = .int i∧y = .int j∧C i j∧Q (g i j) H
def rI0 (g:Int→Int→V):R2:=fun x y H Q=>∃ i j,x = .int i∧y = .int j∧Q (g i j) H
def rU (g:Int→V):V→Hp→VK→Prop:=fun x H Q=>∃ i,x = .int i∧Q (g i) H
section
variable {X:Cx} {a b c:Expr} {ta tb tc:TE} {pos:Pos}
theorem binT (ha:PE X a ta) (hb:PE X b tb) {pins:List (Addr×Obj)} {s:Shared} {σ:St} {H:Hp} {R:V→V→Hp→Prop} (I:Inv X pins σ H s)
  (h:ta σ H fun x H1=>tb σ H1 fun y H2=>R x y H2) {Q:Value→Shared→Prop} {f:Value→Value→Sem Value}
  (hf:∀ v u s2 x y H2,Inv X pins σ H2 s2→RelV x v→RelV y u→R x y H2→wpAny (model X.prog X.w) X.A (f v u) Q X.xe s2) :
  wpAny (model X.prog X.w) X.A (eval a X.env) (fun v s₁=>wpAny (model X.prog X.w) X.A (eval b X.env) (fun u s₂=>wpAny (model X.prog X.w) X.A (f v u) Q X.xe s₂) X.xe s₁) X.xe s:=by
 refine thn (ha pins s σ H _ I h) fun v s1 ⟨x,H1,I1,r1,q1⟩=>?_
 refine thn (hb pins s1 σ H1 _ I1 q1) fun u s2 ⟨y,H2,I2,r2,q2⟩=>?_
 exact hf v u s2 x y H2 I2 r1 r2 q2
theorem pe_op {op:Operator} {r:R2} (ho:OpR X (binaryOp op) r) (ha:PE X a ta) (hb:PE X b tb):PE X (.BinOp a op b pos) (tOp r ta tb):=by
 intro pins s σ H Q I h
 exact wpAny_BinOp (binT ha hb I h fun v u s2 x y H2 I2 rx ry q=>ho pins s2 σ H2 x y v u Q I2 rx ry q)
theorem pe_un {op:UnaryOp} {r:V→Hp→VK→Prop} (ho:UnR X (unaryOp op) r) (ha:PE X a ta):PE X (.UnaryOp op a pos) (tUn r ta):=by
 intro pins s σ H Q I h
 exact UnaryOp_ (thn (ha pins s σ H _ I h) fun v s1 ⟨x,H1,I1,r1,q1⟩=>ho pins s1 σ H1 x v Q I1 r1 q1)
theorem opI {f:Value→Value→Sem Value} {C:Int→Int→Prop} {g:Int→Int→Int}
  (rule:∀ (i j:Int) (t u:Tok) (s:Shared) (Q:Value→Shared→Prop) (E:Value→Shared→Prop),C i j→Q (.int (g i j) s.toks) { s with toks:=s.toks+1 }→wpAny (model X.prog X.w) X.A (f (.int i t) (.int j u)) Q E s) :
  OpR X f (rI C fun i j=>.int (g i j)):=by
 intro pins s σ H x y v u Q I rx ry h
 obtain ⟨i,j,rfl,rfl,hc,q⟩:=h
 obtain ⟨t,rfl⟩:=rx
 obtain ⟨t',rfl⟩:=ry
 exact rule i j t t' s _ _ hc ⟨.int (g i j),H,I.tok _,⟨_,rfl⟩,q⟩
theorem opI0 {f:Value→Value→Sem Value} {g:Int→Int→Int}
  (rule:∀ (i j:Int) (t u:Tok) (s:Shared) (Q:Value→Shared→Prop) (E:Value→Shared→Prop),Q (.int (g i j) s.toks) { s with toks:=s.toks+1 }→wpAny (model X.prog X.w) X.A (f (.int i t) (.int j u)) Q E s) :
  OpR X f (rI0 fun i j=>.int (g i j)):=by
 intro pins s σ H x y v u Q I rx ry h
 obtain ⟨i,j,rfl,rfl,q⟩:=h
 obtain ⟨t,rfl⟩:=rx
 obtain ⟨t',rfl⟩:=ry
 exact rule i j t t' s _ _ ⟨.int (g i j),H,I.tok _,⟨_,rfl⟩,q⟩
theorem opB0 {f:Value→Value→Sem Value} {g:Int→Int→Bool}
  (rule:∀ (i j:Int) (t u:Tok) (s:Shared) (Q:Value→Shared→Prop) (E:Value→Shared→Prop),Q (.bool (g i j)) s→wpAny (model X.prog X.w) X.A (f (.int i t) (.int j u)) Q E s) :
  OpR X f (rI0 fun i j=>.bl (g i j)):=by
 intro pins s σ H x y v u Q I rx ry h
 obtain ⟨i,j,rfl,rfl,q⟩:=h
 obtain ⟨t,rfl⟩:=rx
 obtain ⟨t',rfl⟩:=ry
 exact rule i j t t' s _ _ ⟨.bl (g i j),H,I,rfl,q⟩
def CDiv (i j:Int):Prop:=0 < j∧j < 1073741824
def CMul (i j:Int):Prop:=(-(2 ^ 64) < i∧i < 2 ^ 64)∨(-(2 ^ 64) < j∧j < 2 ^ 64)
theorem CMul.ok {i j:Int} (h:CMul i j):IntMulOk i j:=by
 rcases h with ⟨h1,h2⟩ | ⟨h1,h2⟩
 ·exact .of_left (intBits_le_64 h1 h2)
 ·exact .of_right (intBits_le_64 h1 h2)
theorem op_add:OpR X (binaryOp .Add) (rI0 fun i j=>.int (i+j)):=opI0 fun _ _ _ _ _ _ _ q=>add_int q
theorem op_sub:OpR X (binaryOp .Sub) (rI0 fun i j=>.int (i - j)):=opI0 fun _ _ _ _ _ _ _ q=>sub_int q
theorem op_mul:OpR X (binaryOp .Mult) (rI CMul fun i j=>.int (i * j)):=opI fun _ _ _ _ _ _ _ hc q=>mul_int q hc.ok
theorem op_fdiv:OpR X (binaryOp .FloorDiv) (rI CDiv fun i j=>.int (i / j)):=opI fun i j _ _ _ _ _ hc q=>by
 have h1:(0:Int) < j:=hc.1
 have h2:j < 1073741824:=hc.2
 exact floordiv_int (by omega) (by rw [Int.fdiv_eq_ediv_of_nonneg i (by omega)]; exact q) (.inl (PyProof.noPylong_small (by omega)))
theorem op_mod:OpR X (binaryOp .Mod) (rI (fun _ j=>0 < j) fun i j=>.int (i % j)):=opI fun i j _ _ _ _ _ hc q=>by
 have h1:(0:Int) < j:=hc
 exact mod_int' (by omega) (by rw [Int.fmod_eq_emod_of_nonneg i (by omega)]; exact q)
theorem unI {f:Value→Sem Value} {g:Int→Int}
  (rule:∀ (i:Int) (t:Tok) (s:Shared) (Q:Value→Shared→Prop) (E:Value→Shared→Prop),Q (.int (g i) s.toks) { s with toks:=s.toks+1 }→wpAny (model X.prog X.w) X.A (f (.int i t)) Q E s) :
  UnR X f (rU fun i=>.int (g i)):=by
 intro pins s σ H x v Q I rx h
 obtain ⟨i,rfl,q⟩:=h
 obtain ⟨t,rfl⟩:=rx
 exact rule i t s _ _ ⟨.int (g i),H,I.tok _,⟨_,rfl⟩,q⟩
theorem un_neg:UnR X (unaryOp .USub) (rU fun i=>.int (-i)):=unI fun _ _ _ _ _ q=>neg_int q
end
def scal:V→V→Bool
 | .non,.non=>true | .non,.int _=>true | .int _,.non=>true | .non,.bl _=>true | .bl _,.non=>true | .non,.str _=>true | .str _,.non=>true
 | .int _,.int _=>true | .bl _,.bl _=>true | .str _,.str _=>true | .byt _,.byt _=>true
 | .int _,.str _=>true | .str _,.int _=>true | .bl _,.str _=>true | .str _,.bl _=>true
 | _,_=>false
def rEq:R2:=fun x y H Q=>scal x y = true∧Q (.bl (decide (x = y))) H
def rNe:R2:=fun x y H Q=>scal x y = true∧Q (.bl (!decide (x = y))) H
theorem dec_int {i j:Int}:decide (V.int i = V.int j) = (i == j):=by
 rw [Bool.eq_iff_iff]
 simp
theorem dec_bl {i j:Bool}:decide (V.bl i = V.bl j) = (i == j):=by
 rw [Bool.eq_iff_iff]
 simp
theorem dec_str {i j:Str}:decide (V.str i = V.str j) = (i == j):=by
 rw [Bool.eq_iff_iff]
 simp
theorem dec_byt {i j:Array UInt8}:decide (V.byt i = V.byt j) = (i.toList == j.toList):=by
 rw [Bool.eq_iff_iff]
 cases i
 cases j
 simp
section
variable {X:Cx} {a b c:Expr} {ta tb tc:TE} {pos:Pos}
theorem fin_bl {pins:List (Addr×Obj)} {σ:St} {H:Hp} {s:Shared} {Q:VK} {k k':Bool} (I:Inv X pins σ H s) (q:Q (.bl k) H) (e:k = k'):EP X pins σ Q (.bool k') s:=by
 subst e
 exact ⟨.bl k,H,I,rfl,q⟩
theorem op_eq:OpR X (compareOp .Eq) rEq:=by
 intro pins s σ H x y v u Q I rx ry h
 obtain ⟨hs,q⟩:=h
 cases x with
 | non =>
  cases rx
  cases y with
  | non=>cases ry; exact PySem.EqNone.eq_none_none (fin_bl I q (by simp))
  | bl j=>cases ry; exact PySem.EqNone.eq_none_bool (fin_bl I q (by simp))
  | int j=>obtain ⟨t',rfl⟩:=ry; exact PySem.EqNone.eq_none_int (fin_bl I q (by simp))
  | str j=>obtain ⟨t',rfl⟩:=ry; exact PySem.EqNone.eq_none_str (fin_bl I q (by simp))
  | _=>exact absurd (show false = true from hs) Bool.false_ne_true
 | bl i =>
  cases rx
  cases y with
  | non=>cases ry; exact PySem.EqNone.eq_bool_none (fin_bl I q (by simp))
  | bl j=>cases ry; exact eq_bool (fin_bl I q dec_bl)
  | str j=>obtain ⟨t',rfl⟩:=ry; exact PySem.EqMixed.eq_bool_str (fin_bl I q (by simp))
  | _=>exact absurd (show false = true from hs) Bool.false_ne_true
 | int i =>
  obtain ⟨t,rfl⟩:=rx
  cases y with
  | non=>cases ry; exact PySem.EqNone.eq_int_none (fin_bl I q (by simp))
  | int j=>obtain ⟨t',rfl⟩:=ry; exact eq_int (fin_bl I q dec_int)
  | str j=>obtain ⟨t',rfl⟩:=ry; exact PySem.EqMixed.eq_int_str (fin_bl I q (by simp))
  | _=>exact absurd (show false = true from hs) Bool.false_ne_true
 | str i =>
  obtain ⟨t,rfl⟩:=rx
  cases y with
  | non=>cases ry; exact PySem.EqNone.eq_str_none (fin_bl I q (by simp))
  | bl j=>cases ry; exact PySem.EqMixed.eq_str_bool (fin_bl I q (by simp))
  | int j=>obtain ⟨t',rfl⟩:=ry; exact PySem.EqMixed.eq_str_int (fin_bl I q (by simp))
  | str j=>obtain ⟨t',rfl⟩:=ry; exact eq_str (fin_bl I q dec_str)
  | _=>exact absurd (show false = true from hs) Bool.false_ne_true
 | byt i =>
  obtain ⟨t,rfl⟩:=rx
  cases y with
  | byt j=>obtain ⟨t',rfl⟩:=ry; exact PySem.W.eq_bytes (fin_bl I q dec_byt)
  | _=>exact absurd (show false = true from hs) Bool.false_ne_true
 | _=>cases y <;> exact absurd (show false = true from hs) Bool.false_ne_true
theorem op_ne:OpR X (compareOp .NotEq) rNe:=by
 intro pins s σ H x y v u Q I rx ry h
 obtain ⟨hs,q⟩:=h
 cases x with
 | non =>
  cases rx
  cases y with
  | non=>cases ry; exact PySem.EqNone.ne_none_none (fin_bl I q (by simp))
  | bl j=>cases ry; exact PySem.EqNone.ne_none_bool (fin_bl I q (by simp))
  | int j=>obtain ⟨t',rfl⟩:=ry; exact PySem.EqNone.ne_none_int (fin_bl I q (by simp))
  | str j=>obtain ⟨t',rfl⟩:=ry; exact PySem.EqNone.ne_none_str (fin_bl I q (by simp))
  | _=>exact absurd (show false = true from hs) Bool.false_ne_true
 | bl i =>
  cases rx
  cases y with
  | non=>cases ry; exact PySem.EqNone.ne_bool_none (fin_bl I q (by simp))
  | bl j=>cases ry; exact ne_bool (fin_bl I q (congrArg not dec_bl))
  | str j=>obtain ⟨t',rfl⟩:=ry; exact PySem.EqMixed.ne_bool_str (fin_bl I q (by simp))
  | _=>exact absurd (show false = true from hs) Bool.false_ne_true
 | int i =>
  obtain ⟨t,rfl⟩:=rx
  cases y with
  | non=>cases ry; exact PySem.EqNone.ne_int_none (fin_bl I q (by simp))
  | int j=>obtain ⟨t',rfl⟩:=ry; exact ne_int (fin_bl I q (congrArg not dec_int))
  | str j=>obtain ⟨t',rfl⟩:=ry; exact PySem.EqMixed.ne_int_str (fin_bl I q (by simp))
  | _=>exact absurd (show false = true from hs) Bool.false_ne_true
 | str i =>
  obtain ⟨t,rfl⟩:=rx
  cases y with
  | non=>cases ry; exact PySem.EqNone.ne_str_none (fin_bl I q (by simp))
  | bl j=>cases ry; exact PySem.EqMixed.ne_str_bool (fin_bl I q (by simp))
  | int j=>obtain ⟨t',rfl⟩:=ry; exact PySem.EqMixed.ne_str_int (fin_bl I q (by simp))
  | str j=>obtain ⟨t',rfl⟩:=ry; exact ne_str (fin_bl I q (congrArg not dec_str))
  | _=>exact absurd (show false = true from hs) Bool.false_ne_true
 | byt i =>
  obtain ⟨t,rfl⟩:=rx
  cases y with
  | byt j=>obtain ⟨t',rfl⟩:=ry; exact PySem.W.ne_bytes (fin_bl I q (congrArg not dec_byt))
  | _=>exact absurd (show false = true from hs) Bool.false_ne_true
 | _=>cases y <;> exact absurd (show false = true from hs) Bool.false_ne_true
theorem op_lt:OpR X (compareOp .Lt) (rI0 fun i j=>.bl (decide (i < j))):=opB0 fun _ _ _ _ _ _ _ q=>lt_int q
theorem op_le:OpR X (compareOp .LtE) (rI0 fun i j=>.bl (decide (i≤j))):=opB0 fun _ _ _ _ _ _ _ q=>le_int q
theorem op_gt:OpR X (compareOp .Gt) (rI0 fun i j=>.bl (decide (j < i))):=opB0 fun _ _ _ _ _ _ _ q=>gt_int q
theorem op_ge:OpR X (compareOp .GtE) (rI0 fun i j=>.bl (decide (j≤i))):=opB0 fun _ _ _ _ _ _ _ q=>ge_int q
theorem nomark (b:Expr) {op:CmpOp} (h:op ≠ .In:=by decide) (h2:op ≠ .NotIn:=by decide):behindInMarks op b = false:=by
 have e1:(op == CmpOp.In) = false:=by cases op <;> first | rfl | exact absurd rfl h
 have e2:(op == CmpOp.NotIn) = false:=by cases op <;> first | rfl | exact absurd rfl h2
 cases b <;> simp [behindInMarks,e1,e2]
theorem pe_cmpR {op:CmpOp} {r:R2} (ho:OpR X (compareOp op) r) (ha:PE X a ta) (hb:PE X b tb) (hm:behindInMarks op b = false):PE X (.Compare a [op] [b] pos) (tOp r ta tb):=by
 intro pins s σ H Q I h
 exact wpAny_Compare1 (binT ha hb I h fun v u s2 x y H2 I2 rx ry q=>ho pins s2 σ H2 x y v u Q I2 rx ry q) hm
def tTest (t:TE):TT:=fun σ H Q=>t σ H fun x H'=>∃ k,x = .bl k∧Q k H'
theorem pt_cmpR {op:CmpOp} {r:R2} (ho:OpR X (compareOp op) r) (ha:PE X a ta) (hb:PE X b tb) (hm:behindInMarks op b = false):PT X (.Compare a [op] [b] pos) (tTest (tOp r ta tb)):=by
 intro pins s σ H Q I h
 refine wpAny_isTrue_Compare1 (thn (ha pins s σ H _ I h) fun v s1 ⟨x,H1,I1,r1,q1⟩=>thn (hb pins s1 σ H1 _ I1 q1) fun u s2 ⟨y,H2,I2,r2,q2⟩ =>
  thn (ho pins s2 σ H2 x y v u _ I2 r1 r2 q2) fun c s3 ⟨z,H3,I3,r3,k,e,q3⟩=>?_) hm
 subst e
 cases r3
 exact wpAny_truthy_bool ⟨H3,I3,q3⟩
def tChain (r r':R2) (ta tb tc:TE):TE:=fun σ H Q=>ta σ H fun x H1=>tb σ H1 fun y H2=>r x y H2 fun z H3=>∃ k,z = .bl k ∧
 (if k = true then tc σ H3 fun w' H4=>r' y w' H4 Q else Q (.bl false) H3)
theorem pt_chain {op op':CmpOp} {r r':R2} (ho:OpR X (compareOp op) r) (ho':OpR X (compareOp op') r') (ha:PE X a ta) (hb:PE X b tb) (hc:PE X c tc)
  (hm:lastMarks [op,op'] [b,c] = false:=by with_unfolding_all rfl):PT X (.Compare a [op,op'] [b,c] pos) (tTest (tChain r r' ta tb tc)):=by
 intro pins s σ H Q I h
 refine isTrue_chain (thn (ha pins s σ H _ I h) fun v s1 ⟨x,H1,I1,r1,q1⟩=>test_link (thn (hb pins s1 σ H1 _ I1 q1) fun u s2 ⟨y,H2,I2,r2,q2⟩ =>
  thn (ho pins s2 σ H2 x y v u _ I2 r1 r2 q2) fun d s3 ⟨z,H3,I3,r3,k,e,q3⟩=>?_)) hm
 subst e
 cases r3
 refine wpAny_truthy_bool ?_
 cases k with
 | false =>
  obtain ⟨k',e',q'⟩:=q3
  cases e'
  exact ite_ff ⟨H3,I3,q'⟩
 | true =>
  refine ite_tt (test_last (thn (hc pins s3 σ H3 _ I3 q3) fun w' s4 ⟨z',H4,I4,r4,q4⟩=>thn (ho' pins s4 σ H4 y z' u w' _ I4 r2 r4 q4) fun d' s5 ⟨z2,H5,I5,r5,k2,e2,q5⟩=>?_))
  subst e2
  cases r5
  exact wpAny_truthy_bool ⟨H5,I5,q5⟩
theorem line63:(sizeLine:Nat) < 2 ^ 63:=by rw [sizeLine_eq]; decide
theorem vals1 {x:V} {us:List Value} (r:Vals [x] us):∃ u,us = [u]∧RelV x u:=by
 cases r with
 | cons r1 r2=>cases r2; exact ⟨_,rfl,r1⟩
theorem vals2 {x y:V} {us:List Value} (r:Vals [x,y] us):∃ u w',us = [u,w']∧RelV x u∧RelV y w':=by
 cases r with
 | cons r1 r2 =>
  cases r2 with
  | cons r3 r4=>cases r4; exact ⟨_,_,rfl,r1,r3⟩
theorem call_abs:CallR X (.builtin "abs") (fun xs H Q=>∃ i,xs = [.int i]∧Q (.int (if i < 0 then -i else i)) H):=by
 intro pins s σ H xs us Q I r h
 obtain ⟨i,rfl,q⟩:=h
 obtain ⟨u,rfl,t,rfl⟩:=vals1 r
 exact call_abs_int fun u tk=>⟨.int (if i < 0 then -i else i),H,I.tok _,⟨_,rfl⟩,q⟩
theorem call_max2 (hc:X.calm = true):CallR X (.builtin "max") (fun xs H Q=>∃ i j,xs = [.int i,.int j]∧Q (.int (if j > i then j else i)) H):=by
 intro pins s σ H xs us Q I r h
 obtain ⟨i,j,rfl,q⟩:=h
 obtain ⟨u,w',rfl,⟨t,rfl⟩,⟨t',rfl⟩⟩:=vals2 r
 refine max_two_ints (I.ok.hd hc) fun h' tk k=>⟨_,H,I.kept k,?_,q⟩
 by_cases hj:j > i
 ·rw [if_pos hj,if_pos hj]; exact ⟨_,rfl⟩
 ·rw [if_neg hj,if_neg hj]; exact ⟨_,rfl⟩
theorem call_min2 (hc:X.calm = true):CallR X (.builtin "min") (fun xs H Q=>∃ i j,xs = [.int i,.int j]∧Q (.int (if j < i then j else i)) H):=by
 intro pins s σ H xs us Q I r h
 obtain ⟨i,j,rfl,q⟩:=h
 obtain ⟨u,w',rfl,⟨t,rfl⟩,⟨t',rfl⟩⟩:=vals2 r
 refine min_two_ints (I.ok.hd hc) fun h' tk k=>⟨_,H,I.kept k,?_,q⟩
 by_cases hj:j < i
 ·rw [if_pos hj,if_pos hj]; exact ⟨_,rfl⟩
 ·rw [if_neg hj,if_neg hj]; exact ⟨_,rfl⟩
theorem call_int1:CallR X (.type "int") (fun xs H Q=>(∃ i,xs = [.int i]∧Q (.int i) H)∨∃ k,xs = [.bl k]∧Q (.int (if k then 1 else 0)) H):=by
 intro pins s σ H xs us Q I r h
 rcases h with ⟨i,rfl,q⟩ | ⟨k,rfl,q⟩
 ·obtain ⟨u,rfl,t,rfl⟩:=vals1 r
  exact call_int_int ⟨.int i,H,I,⟨_,rfl⟩,q⟩
 ·obtain ⟨u,rfl,r1⟩:=vals1 r
  cases r1
  exact call_int_bool ⟨.int (if k then 1 else 0),H,I.tok _,⟨_,rfl⟩,q⟩
end
end L2
namespace L2
open PySem PySem.Spec PyProof.Rows
structure ObjM (h:Heap) (x dx C:Addr) (mA:Str→Option Value):Prop where
 obj:h.get? x = some (PySem.W.instObj C dx)
 ns:h.Ns1 dx mA
 ne:dx ≠ x
section
variable {prog:Program} {w:World} {A:Around} {E:Value→Shared→Prop} {s:Shared} {K:PySem.W.Frag} {x dx C f:Addr} {mA:Str→Option Value} {name:Str} {v:Value}
end
def putF (f:Str) (v:V):List (Str×V)→List (Str×V)
 | []=>[(f,v)]
 | (g,x) :: r=>if g = f then (g,v) :: r else (g,x) :: putF f v r
theorem RelO.some_of {v:V} {o:Option Value} (r:RelO (some v) o):∃ u,o = some u∧RelV v u:=by
 cases o with
 | none=>exact (show False from r).elim
 | some u=>exact ⟨u,rfl,r⟩
section
variable {P:Program} {w:World} {H H':Hp} {h h':Heap} {a C dx:Addr} {fs fs':List (Str×V)}
end
structure Cls (K:PySem.W.Frag) (C:Addr):Prop where
 pg:PySem.W.plainGet K C Str.empty = true
 hd:PySem.W.hasDictIn K C = true
 po:PySem.W.plainOver K C = true
 sa:PySem.W.findIn K (.ref C) "__setattr__" = some (some (.builtin "object.__setattr__"))
theorem Cls.get {K:PySem.W.Frag} {C:Addr} (c:Cls K C) (f:Str):PySem.W.plainGet K C f = true:=c.pg
structure Con (K:PySem.W.Frag) (C:Addr) (f:Str) (v:V) (u:Value):Prop where
 at_:PySem.W.findIn K (.ref C) f = some (some u)
 rel:RelV v u
 get:PySem.W.specialIn K u "__get__" = some none
 cp:PySem.W.copiedNames.contains f = false
structure Meth (K:PySem.W.Frag) (C:Addr) (m:Str) (f:Addr):Prop where
 at_:PySem.W.findIn K (.ref C) m = some (some (.ref f))
 fn:PySem.W.isFn K (.ref f) = true
 kp:PySem.W.keepIn K (.ref f) = true
section
variable {X:Cx} {pins:List (Addr×Obj)} {σ:St} {H:Hp} {s:Shared} {a C dx:Addr} {fs:List (Str×V)} {f:Str} {v:V} {A:Around} {E:Value→Shared→Prop}
theorem Inv.made (I:Inv X pins σ H s):Inv X pins σ (upd (upd H s.heap.objs.size (.own (s.heap.objs.size+1))) (s.heap.objs.size+1) (.ins C s.heap.objs.size []))
  { s with heap:=(s.heap.push PySem.W.emptyDict).push (PySem.W.instObj C s.heap.objs.size) }:=by
 have e1:(s.heap.push PySem.W.emptyDict).get? s.heap.objs.size = some PySem.W.emptyDict:=Heap.get?_push_size s.heap rfl
 have e2:((s.heap.push PySem.W.emptyDict).push (PySem.W.instObj C s.heap.objs.size)).get? (s.heap.objs.size+1) = some (PySem.W.instObj C s.heap.objs.size):=by
  have:=Heap.get?_push_size (s.heap.push PySem.W.emptyDict) (o:=PySem.W.instObj C s.heap.objs.size) rfl
  rwa [Heap.size_push] at this
 have e3:(s.heap.push PySem.W.emptyDict).Ns s.heap.objs.size (fun _=>none):=⟨PySem.W.emptyDict,#[],_,e1,rfl,(fun e he=>absurd he (by simp)),fun _=>rfl⟩
 have I1:=I.laid (a:=s.heap.objs.size) (o:=.own (s.heap.objs.size+1)) (h':=s.heap.push PySem.W.emptyDict) (t':=s.toks) (fun b u q=>Heap.get?_push_of_some _ q) (Nat.le_refl _) ⟨_,e1⟩
 refine I1.laid (a:=s.heap.objs.size+1) (o:=.ins C s.heap.objs.size []) (t':=s.toks) (fun b u q=>Heap.get?_push_of_some _ q) (Nat.le_of_eq (Heap.size_push _ _)) ?_
 have ne:s.heap.objs.size ≠ s.heap.objs.size+1:=Nat.ne_of_lt (Nat.lt_succ_self _)
 refine ⟨by rw [upd_ne ne,upd_same],Nat.zero_le _,ne,e2,fun _=>none,(Heap.Ns1.of_empty e3).at fun o q=>Heap.get?_push_of_some _ q,fun _=>True.intro,fun y hy=>absurd rfl hy⟩
end
section
variable {X:Cx} {o e value:Expr} {f:Str} {pos pos' tpos:Pos} {ta tv:TE}
end
section
variable {X:Cx} {pins:List (Addr×Obj)} {σ:St} {H:Hp} {s:Shared} {A:Around} {E:Value→Shared→Prop} {Q:Value→Shared→Prop} {c:Value} {b:Bool}
inductive TyOf (K:PySem.W.Frag) (H:Hp):V→Value→Prop where
 | non:TyOf K H .non (.type "NoneType")
 | bl (x:Bool):TyOf K H (.bl x) (.type "bool")
 | int (i:Int):TyOf K H (.int i) (.type "int")
 | str (x:Str):TyOf K H (.str x) (.type "str")
 | flt (x:UInt64):TyOf K H (.flt x) (.type "float")
 | lst {a:Addr} {xs:List V} (e:H a = some (.lst xs)):TyOf K H (.ref a) (.type "list")
 | frz {a:Addr} {o:Obj} {xs:List V} (e:H a = some (.frz o (.lst xs))):TyOf K H (.ref a) (.type "list")
 | tup {a:Addr} {xs:List V} (e:H a = some (.tup xs)):TyOf K H (.ref a) (.type "tuple")
 | dK {a:Addr} {kvs:List (Key×V)} (e:H a = some (.dK kvs)):TyOf K H (.ref a) (.type "dict")
 | dT {a:Addr} {kvs:List (List Key×V)} (e:H a = some (.dT kvs)):TyOf K H (.ref a) (.type "dict")
 | ins {a C dx:Addr} {fs:List (Str×V)} (e:H a = some (.ins C dx fs)) (cl:Cls K C) (ha:PySem.W.findIn K (.ref C) "__class__" = some (some (.builtin "object.__class__")))
   (hn:PySem.W.specialIn K (.builtin "object.__class__") "__get__" = some (some (.builtin "getset_descriptor.__get__"))) (htk:PySem.W.takesIn K (.builtin "object.__class__") = some true)
   (hm:PySem.W.mroIn K C (.type "object") = some true):TyOf K H (.ref a) (.ref C)
end
end L2
namespace L2
open PySem PySem.Spec PyProof.Rows
structure Room (k:Nat) (A:Around):Prop where
 hd:A.handled = none
 dp:A.depth+3 * k+5 < recursionLimit
 un:A.units+16 * k+200 < cLine
theorem Room.mono {j k:Nat} {A:Around} (r:Room k A) (h:j≤k):Room j A:=⟨r.hd,by have:=r.dp; omega,by have:=r.un; omega⟩
theorem Room.deeper {k:Nat} {A:Around} (r:Room (k+1) A) (env:Env):Room k (A.deeper env) :=
 ⟨r.hd,by have:=r.dp; show A.depth+1+3 * k+5 < _; omega,by have:=r.un; show A.units+3+16 * k+200 < _; omega⟩
theorem Room.in1 {k:Nat} {A:Around} (r:Room (k+1) A):Room k A.in1 :=
 ⟨r.hd,by have:=r.dp; show A.depth+3 * k+5 < _; omega,by have:=r.un; show A.units+1+16 * k+200 < _; omega⟩
theorem Room.depth {k:Nat} {A:Around} (r:Room k A):A.depth < recursionLimit:=by have:=r.dp; omega
theorem Room.units {k:Nat} {A:Around} (r:Room k A):A.units+64 < cLine:=by have:=r.un; omega
def tNil:TA:=fun _ H Q=>Q [] H
def tCons (ta:TE) (tr:TA):TA:=fun σ H Q=>ta σ H fun x H1=>tr σ H1 fun xs H2=>Q (x :: xs) H2
section
variable {X:Cx} {e:Expr} {es:List Expr} {te:TE} {t:TA} {pos:Pos}
theorem pa_nil:PA X [] tNil:=fun _ _ _ _ H Q I h=>Calls.spliced_nil ⟨[],H,I,.nil,h⟩
theorem pa_cons (ha:PE X e te) (hr:PA X es t) (hs:starEach (e :: es) X.env = (false,eval e X.env) :: starEach es X.env:=by rfl):PA X (e :: es) (tCons te t):=by
 intro pos pins s σ H Q I h
 rw [hs]
 show wpAny _ _ (spliced ((false,eval e X.env) :: backTo pos (starEach es X.env))) _ _ s
 refine Calls.spliced_cons (thn (ha pins s σ H _ I h) fun u s1 ⟨x,H1,I1,r1,q1⟩=>?_)
 exact thn (hr pos pins s1 σ H1 _ I1 q1) fun us s2 ⟨xs,H2,I2,r2,q2⟩=>⟨x :: xs,H2,I2,.cons r1 r2,q2⟩
def tTup (t:TA):TE:=fun σ H Q=>t σ H fun xs H1=>xs.length≤sizeLine∧∀ p,H1 p = none→Q (.ref p) (upd H1 p (.tup xs))
def tLst (t:TA):TE:=fun σ H Q=>t σ H fun xs H1=>xs.length≤sizeLine∧∀ p,H1 p = none→Q (.ref p) (upd H1 p (.lst xs))
theorem pe_tup {x1} (h:PA X es t):PE X (.Tuple es x1 pos) (tTup t):=by
 intro pins s σ H Q I hq
 refine wpAny_Tuple_spliced (thn (h pos pins s σ H _ I hq) fun us s1 ⟨xs,H1,I1,r,z,q⟩=>⟨by rw [← r.length]; exact z,?_⟩)
 have hf:H1 s1.heap.objs.size = none:=I1.hok.fresh (Nat.le_refl _)
 refine ⟨.ref s1.heap.objs.size,upd H1 s1.heap.objs.size (.tup xs),I1.laid (t':=s1.toks) (fun b u e=>Heap.get?_push_of_some _ e) (Nat.le_refl _) ?_,rfl,q _ hf⟩
 exact ⟨z,us,r,⟨_,Heap.get?_push_size _ rfl,rfl,_,rfl⟩⟩
theorem pe_lst (h:PA X es t):PE X (.List es pos) (tLst t):=by
 intro pins s σ H Q I hq
 refine wpAny_List_spliced (thn (h pos pins s σ H _ I hq) fun us s1 ⟨xs,H1,I1,r,z,q⟩=>⟨by rw [← r.length]; exact z,?_⟩)
 have hf:H1 s1.heap.objs.size = none:=I1.hok.fresh (Nat.le_refl _)
 refine ⟨.ref s1.heap.objs.size,upd H1 s1.heap.objs.size (.lst xs),I1.laid (t':=s1.toks) (fun b u e=>Heap.get?_push_of_some _ e) (Nat.le_refl _) ?_,rfl,q _ hf⟩
 exact ⟨z,us,0,r,Heap.get?_push_size _ rfl⟩
end
abbrev Sp:=List V→Hp→VK→XK→Prop
abbrev CXT:=List Env→Hp→Shared→XK→Value→Shared→Prop
structure Env0 (P:Program) (w:World) (K:PySem.W.Frag) (mg:Str→Option Value) (base:Heap) (A:Around) (outer:List Env) (s:Shared) (H:Hp):Prop where
 frames:A.frames = some outer
 mod:Mod K mg base
 bs:∀ b o,base.get? b = some o→s.heap.get? b = some o∧H b = none
 bsz:base.objs.size≤s.heap.objs.size
 funs:s.heap.FunFrames base outer
 frf:∀ b ∈ frs outer,H b = none
 hok:HOk P w H s.heap
 bare:AllBare s.gens
def CE (outer:List Env) (P:Program) (w:World) (H:Hp) (s:Shared) (Q:VK) (u:Value) (s':Shared):Prop :=
 ∃ v H',s'.os = s.os∧AllBare s'.gens∧Un (frs outer) [] H H' s.heap s'.heap∧HOk P w H' s'.heap∧RelV v u∧Q v H'
def CR (CX:CXT) (outer:List Env) (P:Program) (w:World) (H:Hp) (s:Shared) (Q:VK) (E:XK) (r:Result) (s':Shared):Prop :=
 match r with
 | .ok (.ret u)=>CE outer P w H s Q u s'
 | .ok _=>False
 | .error e=>CX outer H s E e s'
structure FnOk (P:Program) (w:World) (K:PySem.W.Frag) (mg:Str→Option Value) (base:Heap) (CX:CXT) (k:Nat) (f:Addr) (fd:FuncData) (ps:List Str) (sp:Sp):Prop where
 len:∀ vs H Q E,sp vs H Q E→vs.length = ps.length
 run:∀ (A:Around) (outer:List Env) (s:Shared) (H:Hp) (args:Args) (us:List Value) (vs:List V) (Q:VK) (E:XK),Room k A→Env0 P w K mg base A outer s H→BindsTo s fd args (ps.zip us)→Vals vs us→sp vs H Q E →
  codeAny (model P w) A (.call (.ref f) args) (CR CX outer P w H s Q E) s
theorem FnOk.mono {P:Program} {w:World} {K:PySem.W.Frag} {mg:Str→Option Value} {base:Heap} {CX:CXT} {j k:Nat} {f:Addr} {fd:FuncData} {ps:List Str} {sp:Sp} (F:FnOk P w K mg base CX j f fd ps sp) (h:j≤k) :
  FnOk P w K mg base CX k f fd ps sp:=⟨F.len,fun A outer s H args us vs Q E hr=>F.run A outer s H args us vs Q E (hr.mono h)⟩
theorem FnOk.imp {P:Program} {w:World} {K:PySem.W.Frag} {mg:Str→Option Value} {base:Heap} {CX:CXT} {k:Nat} {f:Addr} {fd:FuncData} {ps:List Str} {sp sp':Sp} (F:FnOk P w K mg base CX k f fd ps sp)
  (h:∀ vs H Q E,sp' vs H Q E→sp vs H Q E):FnOk P w K mg base CX k f fd ps sp' :=
 ⟨fun vs H Q E q=>F.len vs H Q E (h _ _ _ _ q),fun A outer s H args us vs Q E hr he hb hv hs=>F.run A outer s H args us vs Q E hr he hb hv (h _ _ _ _ hs)⟩
theorem Env0.in1 {P:Program} {w:World} {K:PySem.W.Frag} {mg:Str→Option Value} {base:Heap} {A:Around} {outer:List Env} {s:Shared} {H:Hp} (e:Env0 P w K mg base A outer s H) :
  Env0 P w K mg base A.in1 outer s H:=⟨e.frames,e.mod,e.bs,e.bsz,e.funs,e.frf,e.hok,e.bare⟩
section
variable {X:Cx} {pins:List (Addr×Obj)} {σ:St} {H:Hp} {s s':Shared}
theorem Inv.env0 (I:Inv X pins σ H s):Env0 X.prog X.w X.K X.mg X.base X.A X.stack s H :=
 ⟨I.ok.frames,I.ok.mod,I.bs,Nat.le_trans I.ok.bsz I.sz,I.stack,I.stkFree,I.hok,I.bare⟩
theorem Inv.after {Q:VK} {u:Value} (I:Inv X pins σ H s) (h:CE X.stack X.prog X.w H s Q u s'):EP X pins σ Q u s':=by
 obtain ⟨v,H',os,bare,un,hok,r,q⟩:=h
 obtain ⟨hh,g,d,t,os'⟩:=s'
 obtain rfl:os' = s.os:=os
 exact ⟨v,H',I.call (h':=hh) (g':=g) (d':=d) (t':=t) (ch:=[]) un hok bare (fun b z=>absurd z (by simp)),r,q⟩
end
def tCall (sp:Sp) (dvs:List V) (E:XK) (t:TA):TE:=fun σ H Q=>t σ H fun vs H1=>sp (vs++dvs) H1 Q E
def Binds (K:PySem.W.Frag) (fd:FuncData) (ps:List Str) (ds:List Value):Prop :=
 ∀ (s:Shared) (us:List Value),K.In s.heap→(us++ds).length = ps.length→BindsTo s fd ⟨us,[]⟩ (ps.zip (us++ds))
theorem Binds.all {K:PySem.W.Frag} {fd:FuncData} {ps:List Str} (h:∀ us:List Value,us.length = ps.length→bindArgs fd ⟨us,[]⟩ = pure (ps.zip us)):Binds K fd ps []:=fun s us _ hl=>by
 rw [List.append_nil] at hl ⊢
 exact .of_eq (h us hl)
def Passes (CX:CXT) (X:Cx) (E:XK):Prop:=∀ (pins:List (Addr×Obj)) (σ:St) (H:Hp) (s:Shared) (e:Value) (s':Shared),Inv X pins σ H s→CX X.stack H s E e s'→X.xe e s'
section
variable {X:Cx} {CX:CXT} {k:Nat} {f C:Addr} {fd:FuncData} {ps:List Str} {sp:Sp} {dvs:List V} {ds:List Value} {E:XK} {x m:Str} {p pos apos:Pos} {e o:Expr} {es:List Expr} {ta:TE} {t:TA}
theorem run_fn {pins:List (Addr×Obj)} {σ:St} {H:Hp} {s:Shared} {Q:VK} {us:List Value} {vs:List V} (F:FnOk X.prog X.w X.K X.mg X.base CX k f fd ps sp) (hr:Room k X.A) (hb:Binds X.K fd ps ds) (hd:Vals dvs ds) (hx:Passes CX X E)
  (I:Inv X pins σ H s) (r:Vals vs us) (h:sp (vs++dvs) H Q E):wpAny (model X.prog X.w) X.A (call (.ref f) us) (EP X pins σ Q) X.xe s:=by
 have r2:Vals (vs++dvs) (us++ds):=r.append hd
 have hl:(us++ds).length = ps.length:=by rw [← r2.length]; exact F.len _ _ _ _ h
 refine wpAny_call (codeAny_mono (F.run X.A X.stack s H ⟨us,[]⟩ (us++ds) (vs++dvs) Q E hr I.env0 (hb s us I.kIn hl) r2 h) fun r s' hq=>?_)
 cases r with
 | error e=>exact hx pins σ H s e s' I hq
 | ok fl =>
  cases fl with
  | ret u=>exact I.after hq
  | next=>exact False.elim hq
  | brk=>exact False.elim hq
  | cont=>exact False.elim hq
theorem pe_call (F:FnOk X.prog X.w X.K X.mg X.base CX k f fd ps sp) (hr:Room k X.A) (hg:Gl X x) (hm:X.mg x = some (.ref f)) (hk:PySem.W.keepIn X.K (.ref f) = true) (hb:Binds X.K fd ps ds) (hd:Vals dvs ds) (hx:Passes CX X E)
  (ha:PA X (e :: es) t) (hdb:(x == ("__debug__":Str)) = false:=by decide) (he:starEach (e :: es) X.env = (false,eval e X.env) :: starEach es X.env:=by rfl) (hpl:(backTo pos (starEach es X.env)).any (·.1) = false:=by rfl) :
  PE X (.Call (.Name x p) (e :: es) [] pos) (tCall sp dvs E t):=by
 intro pins s σ H Q I h
 refine wpAny_Call_Name_kw (ld_glob I hg hm ?_ hdb)
 refine PySem.W.callWith_K (h₀:=X.base) I.ok.mod.kin hk (thn (ha pos pins s σ H _ I h) fun us s1 ⟨vs,H1,I1,r,q⟩=>⟨I1.kIn,?_⟩) he hpl
 exact run_fn F hr hb hd hx I1 r q
structure Mk (K:PySem.W.Frag) (C f:Addr):Prop where
 makes:PySem.W.makesIn K C = true
 init:PySem.W.findIn K (.ref C) "__init__" = some (some (.ref f))
 fn:PySem.W.isFn K (.ref f) = true
 kp:PySem.W.keepIn K (.ref C) = true
end
section
variable {X:Cx} {CX:CXT} {k:Nat} {f C:Addr} {fd:FuncData} {ps ks:List Str} {sp:Sp} {E:XK} {x m:Str} {p pos apos kpos:Pos} {e o:Expr} {es:List Expr} {kws:List Keyword} {te ta:TE} {t tk:TA} {nm:Option Str}
structure KBinds (K:PySem.W.Frag) (fd:FuncData) (ps ks:List Str) (g:List Value→List Value→List Value) (gV:List V→List V→List V):Prop where
 to:∀ (s:Shared) (us ws:List Value),K.In s.heap→(g us ws).length = ps.length→BindsTo s fd ⟨us,ks.zip ws⟩ (ps.zip (g us ws))
 rel:∀ {vs:List V} {us:List Value} {zs:List V} {ws:List Value},Vals vs us→Vals zs ws→Vals (gV vs zs) (g us ws)
variable {g:List Value→List Value→List Value} {gV:List V→List V→List V}
end
structure FnScope (N P:List Str) (sc:Scope):Prop where
 kind:sc.kind = .function
 co:sc.isCoroutine = false
 gen:sc.isGenerator = false
 nd:N.Nodup
 pre:N.take P.length = P
 par:∀ x ∈ P,sc.names.lookup x = some .local∨sc.names.lookup x = some .cell
 nofree:∀ y ∈ sc.names,y.2 ≠ .free
theorem bindL_out {kindOf:Str→Option NameKind} {x:Str}:∀ {binds:List (Str×Value)} {m:Str→Option Value},(∀ v,(x,v) ∉ binds)→bindL kindOf binds m x = m x
 | [],_,_=>rfl
 | (n,v) :: r,m,h=>by
  unfold bindL
  rw [bindL_out fun w hw=>h w (List.mem_cons_of_mem _ hw)]
  split
  ·have:x ≠ n:=by rintro rfl; exact h v List.mem_cons_self
   simp [this]
  ·rfl
theorem bindC_out {kindOf:Str→Option NameKind} {x:Str}:∀ {binds:List (Str×Value)} {m:Str→Option Value},(∀ v,(x,v) ∉ binds)→bindC kindOf binds m x = m x
 | [],_,_=>rfl
 | (n,v) :: r,m,h=>by
  unfold bindC
  rw [bindC_out fun w hw=>h w (List.mem_cons_of_mem _ hw)]
  split
  ·rfl
  ·have:x ≠ n:=by rintro rfl; exact h v List.mem_cons_self
   simp [this]
theorem bindL_get {kindOf:Str→Option NameKind} {x:Str} {v:Value}:∀ {P:List Str} {vs:List Value} {i:Nat} {m:Str→Option Value},P.Nodup→P[i]? = some x→vs[i]? = some v→kindOf x = some .local →
  bindL kindOf (P.zip vs) m x = some v
 | [],_,_,_,_,h,_,_=>by simp at h
 | _ :: _,[],_,_,_,_,h,_=>by simp at h
 | p :: P,w :: vs,0,m,nd,h1,h2,hk=>by
  simp at h1 h2; subst h1; subst h2
  show bindL kindOf ((p,w) :: P.zip vs) m p = _
  unfold bindL
  rw [bindL_out fun v hv=>(List.nodup_cons.mp nd).1 (List.of_mem_zip hv).1,if_pos hk]
  simp
 | p :: P,w :: vs,i+1,m,nd,h1,h2,hk=>by
  show bindL kindOf ((p,w) :: P.zip vs) m x = _
  unfold bindL
  exact bindL_get (i:=i) (List.nodup_cons.mp nd).2 (by simpa using h1) (by simpa using h2) hk
theorem bindC_get {kindOf:Str→Option NameKind} {x:Str} {v:Value}:∀ {P:List Str} {vs:List Value} {i:Nat} {m:Str→Option Value},P.Nodup→P[i]? = some x→vs[i]? = some v→kindOf x ≠ some .local →
  bindC kindOf (P.zip vs) m x = some v
 | [],_,_,_,_,h,_,_=>by simp at h
 | _ :: _,[],_,_,_,_,h,_=>by simp at h
 | p :: P,w :: vs,0,m,nd,h1,h2,hk=>by
  simp at h1 h2; subst h1; subst h2
  show bindC kindOf ((p,w) :: P.zip vs) m p = _
  unfold bindC
  rw [bindC_out fun v hv=>(List.nodup_cons.mp nd).1 (List.of_mem_zip hv).1,if_neg hk]
  simp
 | p :: P,w :: vs,i+1,m,nd,h1,h2,hk=>by
  show bindC kindOf ((p,w) :: P.zip vs) m x = _
  unfold bindC
  exact bindC_get (i:=i) (List.nodup_cons.mp nd).2 (by simpa using h1) (by simpa using h2) hk
def start (N:List Str) (vs:List V):St:=vs.map some++List.replicate (N.length - vs.length) none
def cxOf (CX:CXT) (P:Program) (w:World) (K:PySem.W.Frag) (mg:Str→Option Value) (base:Heap) (N:List Str) (qual:Str) (scope:Scope) (f:Addr) (cd:Value) (A:Around) (outer:List Env) (s:Shared) (H:Hp) (E:XK):Cx where
 prog:=P
 w:=w
 K:=K
 mg:=mg
 base:=base
 A:=A.deeper (envOfC qual scope s.heap.objs.size f cd)
 N:=N
 s₀:=s
 H₀:=H
 env:=envOfC qual scope s.heap.objs.size f cd
 outer:=outer
 stack:=envOfC qual scope s.heap.objs.size f cd :: outer
 ex:=[]
 calm:=true
 fn:=fun _=>true
 pn:=[]
 xe:=fun e s'=>wpAny (model P w) (A.deeper (envOfC qual scope s.heap.objs.size f cd)) (leaving (envOfC qual scope s.heap.objs.size f cd) e) (fun _ s''=>CX outer H s E e s'') (fun e' s''=>CX outer H s E e' s'') s'
theorem cell_has {sc:Scope} {n:Nat} {x:Str} (h:sc.names.lookup x = some .cell):∃ c,(cellsFrom n sc.names []).lookup x = some c:=by
 have q:=PySem.W.cellsFrom_some sc.names n [] (.inl h)
 exact Option.isSome_iff_exists.mp q
theorem inv_start {CX:CXT} {P:Program} {w:World} {K:PySem.W.Frag} {mg:Str→Option Value} {base:Heap} {N ps:List Str} {qual:Str} {scope:Scope} {f:Addr} {cd:Value} {A:Around} {outer:List Env} {s s1:Shared} {H:Hp} {E:XK} {us:List Value} {vs:List V}
  (S:FnScope N ps scope) (hd:A.handled = none) (e0:Env0 P w K mg base A outer s H) (hl:vs.length = ps.length) (r:Vals vs us)
  (x:InCallC s s.heap.objs.size (bindL (envOfC qual scope s.heap.objs.size f cd).kindOf (ps.zip us) fun _=>none) (cellsFrom (s.heap.objs.size+1) scope.names []) (bindC (envOfC qual scope s.heap.objs.size f cd).kindOf (ps.zip us) fun _=>none) s1) :
  Inv (cxOf CX P w K mg base N qual scope f cd A outer s H E) [] (start N vs) H s1:=by
 have hpl:ps.length≤N.length:=by have:=congrArg List.length S.pre; rw [List.length_take] at this; omega
 obtain ⟨h1,tk,rfl,hk⟩:=x.done
 have noA:∀ b:Addr,b ∉ (cxOf CX P w K mg base N qual scope f cd A outer s H E).ex:=fun b z=>absurd (show b ∈ ([]:List Addr) from z) (by simp)
 refine ⟨⟨e0.mod,S.kind,rfl,rfl,Nat.le_refl _,fun y z c h1 h2=>?_,fun y hy=>?_,fun y c _ h=>?_,fun _=>hd,Around.frames_deeper e0.frames,.inr ⟨rfl,rfl⟩,fun b z=>absurd z (noA b),e0.bs,e0.bsz,fun b _ _=>noA b,fun b z=>absurd z (noA b),e0.funs,e0.frf⟩,
  rfl,e0.bare,Un.kept hk,⟨_,x.toInCall.ns,fun i y v h1 h2 h3=>?_⟩,fun y c h=>⟨_,x.cell y c h⟩,e0.hok.fresh (Nat.le_refl _),fun y c h=>?_,fun p hp=>absurd (show p ∈ ([]:List (Addr×Obj)) from hp) (by simp),e0.hok.kept hk,?_⟩
 ·exact name_of_addr x.apart (PySem.mem_of_lookup h1) (PySem.mem_of_lookup h2)
 ·have hy:scope.names.lookup y = some .cell∨scope.names.lookup y = some .free:=hy
  rcases hy with hy | hy
  ·exact cell_has hy
  ·exact absurd rfl (S.nofree _ (PySem.mem_of_lookup hy))
 ·exact Nat.le_of_lt (x.above y c (PySem.mem_of_lookup h))
 ·have hi:i < vs.length:=by
   unfold start at h2
   by_cases hi:i < vs.length
   ·exact hi
   ·rw [List.getElem?_append_right (by simpa using hi)] at h2
    rw [List.getElem?_replicate] at h2
    split at h2 <;> cases h2
  have ha:vs[i]? = some v:=by
   unfold start at h2
   rw [List.getElem?_append_left (by simpa using hi),List.getElem?_map] at h2
   cases e:vs[i]? with
   | none=>rw [e] at h2; cases h2
   | some a=>rw [e] at h2; cases h2; rfl
  obtain ⟨u,hu,rv⟩:=r.get ha
  have hp:ps[i]? = some y:=by
   rw [← S.pre,List.getElem?_take_of_lt (by omega)]; exact h1
  have ndP:ps.Nodup:=by rw [← S.pre]; exact S.nd.sublist (List.take_sublist _ _)
  refine ⟨u,rv,?_⟩
  rcases S.par y (List.mem_of_getElem? hp) with k | k
  ·exact .inl ⟨k,bindL_get ndP hp hu k⟩
  ·obtain ⟨c,e⟩:=cell_has (n:=s.heap.objs.size+1) k
   refine .inr ⟨.inl k,c,e,?_⟩
   have q:=x.cell y c e
   rw [bindC_get ndP hp hu (by show scope.names.lookup y ≠ _; rw [k]; decide)] at q
   exact q
 ·exact e0.hok.fresh (Nat.le_of_lt (x.above y c (PySem.mem_of_lookup h)))
 ·unfold start
  show _ = N.length
  rw [List.length_append,List.length_map,List.length_replicate]
  omega
theorem fn_of {CX:CXT} {P:Program} {w:World} {K:PySem.W.Frag} {mg:Str→Option Value} {base:Heap} {k:Nat} {f:Addr} {name qual:Str} {params:Arguments} {body:List Stmt} {scope:Scope} {dV kV doc pm cdv ct oc:Value} {an od:Option Addr}
  {osl:Array (Option Value)} {N ps:List Str} {sp:Sp} (lk:K.lookup f = some ⟨oc,od,.func (PySem.W.fnOf name qual params body scope dV kV doc pm an cdv ct),osl⟩) (hcd:PySem.W.codeIn K cdv qual = true) (S:FnScope N ps scope)
  (len:∀ vs H Q E,sp vs H Q E→vs.length = ps.length)
  (hbody:∀ (A:Around) (outer:List Env) (s:Shared) (H:Hp) (vs:List V) (Q:VK) (E:XK),Room k (A.deeper (envOfC qual scope s.heap.objs.size f cdv))→sp vs H Q E →
   ∃ t,PSs (cxOf CX P w K mg base N qual scope f cdv A outer s H E) body t∧t { nx:=fun _ H'=>Q .non H',rt:=Q } (start N vs) H) :
  FnOk P w K mg base CX (k+1) f (PySem.W.fnOf name qual params body scope dV kV doc pm an cdv ct) ps sp:=by
 refine ⟨len,fun A outer s H args us vs Q E hr e0 hb r hsp=>?_⟩
 have hl:=len _ _ _ _ hsp
 have KX:K.In s.heap:=e0.mod.kin.keeps fun b o e=>(e0.bs b o e).1
 have lim:s.heap.NoLimit:=e0.mod.nolimit.keeps fun b o e=>(e0.bs b o e).1
 have hkind:∀ y ∈ ps.zip us,scope.names.lookup y.1 = some .local∨(scope.names.lookup y.1 = some .cell∧((cellsFrom (s.heap.objs.size+1) scope.names []).lookup y.1).isSome = true):=fun ⟨n,v⟩ hy=>by
  rcases S.par n (List.of_mem_zip hy).1 with q | q
  ·exact .inl q
  ·exact .inr ⟨q,PySem.W.cellsFrom_some _ _ _ (.inl q)⟩
 refine codeAny_call_function hr.depth (KX _ _ lk) rfl S.co S.gen rfl (PySem.W.codeRec_of KX hcd) (hb _ _ _ _ ?_)
 refine wpAny_newFunctionEnv_cells S.kind hkind fun env he s1 x=>?_
 subst he
 refine ⟨lim.keeps x.toInCall.keep,codeAny_func ?_⟩
 obtain ⟨t,ht,hq⟩:=hbody A outer s H vs Q E (hr.deeper _) hsp
 have I:Inv (cxOf CX P w K mg base N qual scope f cdv A outer s H E) [] (start N vs) H s1:=inv_start S hr.hd e0 hl r x
 refine wpAny_mono (ht [] s1 (start N vs) H _ I hq) (fun fl s' hs=>?_) fun e s' hs=>hs
 have fin:∀ {σ':St} {H':Hp} {v:V} {u:Value},Inv (cxOf CX P w K mg base N qual scope f cdv A outer s H E) [] σ' H' s'→RelV v u→Q v H'→CE outer P w H s Q u s' :=
  fun {σ' H' v u} J rv q=>⟨v,H',J.os,J.bare,J.base,J.hok,rv,q⟩
 cases fl with
 | ret u =>
  obtain ⟨v,σ',H',J,rv,q⟩:=hs
  exact fin J rv q
 | next =>
  obtain ⟨σ',H',J,q⟩:=hs
  exact fin (v:=V.non) (u:=Value.none) J rfl q
 | brk =>
  obtain ⟨_,_,_,q⟩:=hs
  exact False.elim q
 | cont =>
  obtain ⟨_,_,_,q⟩:=hs
  exact False.elim q
end L2
namespace L2
open PySem PySem.Spec PyProof.Rows
section
variable {X:Cx} {x:Str} {p pos:Pos} {e:Expr} {es:List Expr} {t:TA} {id T:String} {r:List V→Hp→VK→Prop}
def tCB (r:List V→Hp→VK→Prop) (t:TA):TE:=fun σ H Q=>t σ H fun vs H1=>r vs H1 Q
theorem pe_callB (hc:CallR X (.builtin id) r) (hg:Gl X x) (hm:X.mg x = none) (hv:bootBuiltins x = some (.builtin id)) (ha:PA X (e :: es) t) (hn:x ≠ "__name__":=by decide) (hdb:(x == ("__debug__":Str)) = false:=by decide)
  (he:starEach (e :: es) X.env = (false,eval e X.env) :: starEach es X.env:=by rfl) (hpl:(backTo pos (starEach es X.env)).any (·.1) = false:=by rfl):PE X (.Call (.Name x p) (e :: es) [] pos) (tCB r t):=by
 intro pins s σ H Q I h
 refine wpAny_Call_Name_kw (ld_blt I hg hm hv ?_ hn hdb)
 exact PyProof.Rows.callWith_builtin1 (thn (ha pos pins s σ H _ I h) fun us s1 ⟨vs,H1,I1,r1,q1⟩=>hc pins s1 σ H1 vs us Q I1 r1 q1) he hpl
theorem pe_callTy (hc:CallR X (.type T) r) (hg:Gl X x) (hm:X.mg x = none) (hv:bootBuiltins x = some (.type T)) (ha:PA X (e :: es) t) (hn:x ≠ "__name__":=by decide) (hdb:(x == ("__debug__":Str)) = false:=by decide)
  (he:starEach (e :: es) X.env = (false,eval e X.env) :: starEach es X.env:=by rfl) (hpl:(backTo pos (starEach es X.env)).any (·.1) = false:=by rfl):PE X (.Call (.Name x p) (e :: es) [] pos) (tCB r t):=by
 intro pins s σ H Q I h
 refine wpAny_Call_Name_kw (ld_blt I hg hm hv ?_ hn hdb)
 exact PyProof.Rows.callWith_type1 (thn (ha pos pins s σ H _ I h) fun us s1 ⟨vs,H1,I1,r1,q1⟩=>hc pins s1 σ H1 vs us Q I1 r1 q1) he hpl
end
end L2
namespace HT
open PySem PyProof.Rows
section
open PySem.SeqAt
open PySem.AutoSeq1 (wpAny_loadPart')
open PySem.MeetsSeq PySem.MeetsSeq2 PySem.MeetsSeq3
end
section
variable {prog:Program} {w:World} {A:Around} {E:Value→Shared→Prop} {s:Shared}
def sIx (n d:Nat):Option Int→Nat
 | none=>d
 | some v=>if v < 0 then (v+(n:Int)).toNat else min v.toNat n
end
end HT
namespace L2
open PySem PySem.Spec PyProof.Rows
abbrev TO:=St→Hp→(Option Int→Hp→Prop)→Prop
def PO (X:Cx) (e:Option Expr) (t:TO):Prop :=
 ∀ (pins:List (Addr×Obj)) (s:Shared) (σ:St) (H:Hp) (Q:Option Int→Hp→Prop),Inv X pins σ H s→t σ H Q →
  wpAny (model X.prog X.w) X.A (evalPart e X.env) (fun u s'=>∃ o H',Inv X pins σ H' s'∧IsPart u o∧Q o H') X.xe s
def tNoPart:TO:=fun _ H Q=>Q none H
def tPart (t:TE):TO:=fun σ H Q=>t σ H fun x H1=>∃ i,x = .int i∧Q (some i) H1
section
variable {X:Cx} {e:Expr} {te:TE} {lo hi:Option Expr} {tl th:TO} {pos p2:Pos}
theorem po_none:PO X none tNoPart:=by
 intro pins s σ H Q I h
 rw [evalPart_none]
 exact wpAny_pure ⟨none,H,I,.none,h⟩
theorem po_some (h:PE X e te):PO X (some e) (tPart te):=by
 intro pins s σ H Q I hw
 rw [evalPart_some]
 refine thn (h pins s σ H _ I hw) fun u s1 ⟨x,H1,I1,r1,q1⟩=>?_
 obtain ⟨i,rfl,q⟩:=q1
 obtain ⟨t,rfl⟩:=r1
 exact ⟨some i,H1,I1,.int i t,q⟩
def SlR (X:Cx) (r:V→Option Int→Option Int→Hp→VK→Prop):Prop :=
 ∀ (pins:List (Addr×Obj)) (s:Shared) (σ:St) (H:Hp) (x:V) (v vl vu:Value) (lo hi:Option Int) (sl:Addr) (Q:VK),Inv X pins σ H s→RelV x v→s.heap.IsSliceOf sl vl vu .none→IsPart vl lo→IsPart vu hi→r x lo hi H Q →
  ∃ T id,typeLookup (.type T) "__getitem__" = pure (some (.builtin id))∧s.TypeIs v T∧wpAny (model X.prog X.w) X.A (getItem v (.ref sl)) (EP X pins σ Q) X.xe s
def tSl (r:V→Option Int→Option Int→Hp→VK→Prop) (te:TE) (tl th:TO):TE:=fun σ H Q=>te σ H fun x H1=>tl σ H1 fun l H2=>th σ H2 fun u H3=>r x l u H3 Q
theorem pe_slice {r:V→Option Int→Option Int→Hp→VK→Prop} (hr:SlR X r) (he:PE X e te) (hl:PO X lo tl) (hu:PO X hi th):PE X (.Subscript e (.Slice lo hi none p2) pos) (tSl r te tl th):=by
 intro pins s σ H Q I h
 refine Subscript_ (thn (he pins s σ H _ I h) fun v s1 ⟨x,H1,I1,r1,q1⟩=>?_)
 refine wpAny_Slice (thn (hl pins s1 σ H1 _ I1 q1) fun vl s2 ⟨l,H2,I2,pl,q2⟩=>thn (hu pins s2 σ H2 _ I2 q2) fun vu s3 ⟨u,H3,I3,pu,q3⟩=>?_)
 rw [evalPart_none]
 refine wpAny_pure ?_
 have I4:Inv X pins σ H3 { s3 with heap:=s3.heap.push { cls:=.type "slice",data:=.fields #[vl,vu,.none] } }:=I3.kept (t':=s3.toks) fun b ob q=>Heap.get?_push_of_some _ q
 obtain ⟨T,id,hT,ht,hg⟩:=hr pins { s3 with heap:=s3.heap.push { cls:=.type "slice",data:=.fields #[vl,vu,.none] } } σ H3 x v vl vu l u s3.heap.objs.size Q I4 r1 (Heap.IsSliceOf.new ..) pl pu q3
 show wpAny (model X.prog X.w) X.A (subscriptTail e (.Slice lo hi none p2) v (.ref s3.heap.objs.size)) (EP X pins σ Q) X.xe { s3 with heap:=s3.heap.push { cls:=.type "slice",data:=.fields #[vl,vu,.none] } }
 exact tail_any (ops:=[.ref s3.heap.objs.size,v]) ht hT hg (by with_unfolding_all rfl)
def cutV (xs:List V) (lo hi:Option Int):List V:=(xs.drop (HT.sIx xs.length 0 lo)).take (HT.sIx xs.length xs.length hi - HT.sIx xs.length 0 lo)
theorem cutV_length (xs:List V) (lo hi:Option Int):(cutV xs lo hi).length≤xs.length:=by
 unfold cutV
 rw [List.length_take,List.length_drop]
 omega
end
end L2
namespace L2
open PySem PySem.Spec PyProof.Rows
def ixN (n:Nat) (i:Int):Option Nat:=if 0≤i then (if i < n then some i.toNat else none) else if -(n:Int)≤i then some (i+n).toNat else none
def atI {α:Type} (xs:List α) (i:Int):Option α:=(ixN xs.length i).bind fun j=>xs[j]?
theorem ixN_seq {n:Nat} {i:Int} {j:Nat} (h:ixN n i = some j):seqIndex? i n = some j∧j < n∧-(n:Int)≤i∧i < n:=by
 unfold ixN at h
 by_cases h0:0≤i
 ·rw [if_pos h0] at h
  by_cases h1:i < n
  ·rw [if_pos h1] at h
   have e:i.toNat = j:=Option.some.inj h
   exact ⟨by rw [seqIndex_of h0 h1,e],by omega,by omega,h1⟩
  ·rw [if_neg h1] at h; cases h
 ·rw [if_neg h0] at h
  by_cases h1:-(n:Int)≤i
  ·rw [if_pos h1] at h
   have e:(i+n).toNat = j:=Option.some.inj h
   exact ⟨by rw [seqIndex_neg (by omega) h1,e],by omega,h1,by omega⟩
  ·rw [if_neg h1] at h; cases h
theorem atI_get {α:Type} {xs:List α} {i:Int} {v:α} (h:atI xs i = some v):∃ j,seqIndex? i xs.length = some j∧xs[j]? = some v∧j < xs.length∧-(xs.length:Int)≤i∧i < xs.length:=by
 unfold atI at h
 cases e:ixN xs.length i with
 | none=>rw [e] at h; cases h
 | some j =>
  rw [e] at h
  obtain ⟨h1,h2,h3,h4⟩:=ixN_seq e
  exact ⟨j,h1,h,h2,h3,h4⟩
theorem atI_nat {α:Type} {xs:List α} {j:Nat} {v:α} (h:xs[j]? = some v):atI xs (j:Int) = some v:=by
 have hj:j < xs.length:=(List.getElem?_eq_some_iff.mp h).1
 have e:ixN xs.length (j:Int) = some j:=by
  unfold ixN
  rw [if_pos (by omega),if_pos (by omega)]; simp
 unfold atI; rw [e]; exact h
def PlainIx (b:Expr):Prop:=∀ o i,subscripted b false o i = operate [o,i] (getItem o i)
def IxR (X:Cx) (r:R2):Prop :=
 ∀ (value slice:Expr) (pins:List (Addr×Obj)) (s:Shared) (σ:St) (H:Hp) (x y:V) (v u:Value) (Q:VK),Inv X pins σ H s→RelV x v→RelV y u→r x y H Q →
  subscripted slice false v u = operate [v,u] (getItem v u)→wpAny (model X.prog X.w) X.A (subscriptTail value slice v u) (EP X pins σ Q) X.xe s
def MtR (X:Cx) (id:String) (r:V→List V→Hp→VK→Prop):Prop :=
 ∀ (pins:List (Addr×Obj)) (s:Shared) (σ:St) (H:Hp) (x:V) (xs:List V) (v:Value) (us:List Value) (Q:VK),Inv X pins σ H s→RelV x v→Vals xs us→r x xs H Q →
  wpAny (model X.prog X.w) X.A (call (.builtin id) (v :: us)) (EP X pins σ Q) X.xe s
section
variable {X:Cx} {a b:Expr} {ta tb:TE} {pos:Pos}
theorem pe_ix {r:R2} (hr:IxR X r) (ha:PE X a ta) (hb:PE X b tb) (hs:PlainIx b):PE X (.Subscript a b pos) (tOp r ta tb):=by
 intro pins s σ H Q I h
 exact Subscript_ (binT ha hb I h fun v u s2 x y H2 I2 rx ry q=>hr a b pins s2 σ H2 x y v u Q I2 rx ry q (hs _ _))
def rIxL (K:PySem.W.Frag):R2:=fun x y H Q=>∃ p xs i v,x = .ref p∧y = .int i∧SqL K H p xs∧atI xs i = some v∧Q v H
def rIxT (K:PySem.W.Frag):R2:=fun x y H Q=>∃ p xs i v,x = .ref p∧y = .int i∧SqT K H p xs∧atI xs i = some v∧Q v H
theorem ix_list:IxR X (rIxL X.K):=by
 intro value slice pins s σ H x y v u Q I rx ry h hs
 obtain ⟨p,xs,i,z,rfl,rfl,hq,he,q⟩:=h
 cases rx
 obtain ⟨t,rfl⟩:=ry
 obtain ⟨its,r,pl,hz⟩:=I.list hq
 obtain ⟨j,h1,h2,h3,h4,h5⟩:=atI_get he
 obtain ⟨w,ew,rw'⟩:=r.get h2
 have hl:=r.length
 have hn:=line63
 have fin:EP X pins σ Q w s:=⟨z,H,I,rw',q⟩
 by_cases h0:0≤i
 ·have hj:i.toNat = j:=by
   rw [seqIndex_of h0 h5] at h1
   exact Option.some.inj h1
  exact item_listR pl.isList h0 (by omega) (by rw [hj]; simpa using ew) fin hs
 ·have hj:(i+(its.toArray.size:Int)).toNat = j:=by
   rw [seqIndex_neg (by omega) h4] at h1
   rw [List.size_toArray,← hl]
   exact Option.some.inj h1
  exact subscriptTail_builtinR (x:=w) pl.isList.typeIs slot_list_getitem.lookup
   (wpAny_getItem_list_neg (Q:=fun r s'=>r = w∧EP X pins σ Q r s') pl.isList (by omega) (by rw [List.size_toArray] <;> omega) (by omega) (by rw [hj]; simpa using ew) ⟨rfl,fin⟩) hs
theorem ix_tup:IxR X (rIxT X.K):=by
 intro value slice pins s σ H x y v u Q I rx ry h hs
 obtain ⟨p,xs,i,z,rfl,rfl,hq,he,q⟩:=h
 cases rx
 obtain ⟨t,rfl⟩:=ry
 obtain ⟨its,r,pl,hz⟩:=I.tuple hq
 obtain ⟨j,h1,h2,h3,h4,h5⟩:=atI_get he
 obtain ⟨w,ew,rw'⟩:=r.get h2
 have hl:=r.length
 have hn:=line63
 have fin:EP X pins σ Q w s:=⟨z,H,I,rw',q⟩
 exact subscriptTail_builtinR (x:=w) pl.typeIs slot_tuple_getitem.lookup
  (getItem_tuple (j:=j) (Q:=fun r s'=>r = w∧EP X pins σ Q r s') pl (by omega) (by omega) (by rw [List.size_toArray,← hl]; exact h1) (by simpa using ew) ⟨rfl,fin⟩) hs
theorem Inv.lst {pins:List (Addr×Obj)} {σ:St} {H:Hp} {s:Shared} {p:Addr} {xs:List V} (I:Inv X pins σ H s) (h:H p = some (.lst xs)) :
  ∃ (its:List Value) (n:Nat),Vals xs its∧s.heap.get? p = some { cls:=.type "list",data:=.seq its.toArray n }∧xs.length≤sizeLine:=by
 obtain ⟨z,its,n,r,e⟩:=I.hok p _ h
 exact ⟨its,n,r,e,z⟩
theorem slice_bounds (lo hi:Option Int) (n:Nat):(sliceBounds lo hi none n).1 = ((HT.sIx n 0 lo:Nat):Int)∧(sliceBounds lo hi none n).2.1 = ((HT.sIx n n hi:Nat):Int)∧(sliceBounds lo hi none n).2.2 = 1:=by
 refine ⟨?_,?_,rfl⟩
 ·cases lo with
  | none=>simp [sliceBounds,HT.sIx]
  | some i =>
   simp only [sliceBounds,HT.sIx,Option.getD_none,show (1:Int) > 0 by decide,if_true]
   by_cases h:i < 0
   ·simp only [h,if_true] <;> omega
   ·simp only [h,if_false] <;> omega
 ·cases hi with
  | none=>simp [sliceBounds,HT.sIx]
  | some i =>
   simp only [sliceBounds,HT.sIx,Option.getD_none,show (1:Int) > 0 by decide,if_true]
   by_cases h:i < 0
   ·simp only [h,if_true] <;> omega
   ·simp only [h,if_false] <;> omega
theorem slicePick_cut (its:List Value) (lo hi:Option Int):slicePick its.toArray lo hi none = ((its.drop (HT.sIx its.length 0 lo)).take (HT.sIx its.length its.length hi - HT.sIx its.length 0 lo)).toArray:=by
 obtain ⟨h1,h2,h3⟩:=slice_bounds lo hi its.toArray.size
 unfold slicePick
 rw [h1,h2,h3]
 simp only [sliceRange_one,pick_run,List.size_toArray] <;> rfl
def rSlL (K:PySem.W.Frag):V→Option Int→Option Int→Hp→VK→Prop:=fun x lo hi H Q=>∃ a xs,x = .ref a∧SqL K H a xs∧∀ p,H p = none→Q (.ref p) (upd H p (.lst (cutV xs lo hi)))
theorem sl_list:SlR X (rSlL X.K):=by
 intro pins s σ H x v vl vu lo hi sl Q I rx hs pl pu h
 obtain ⟨a,xs,rfl,hx,q⟩:=h
 cases rx
 obtain ⟨its,r,ht,hz⟩:=I.list hx
 have hlen:=r.length
 refine ⟨"list",_,slot_list_getitem.lookup,ht.isList.typeIs,?_⟩
 refine wpAny_getItem_list_slice ht.isList hs pl pu .none (by simp) ?_ (by rw [List.size_toArray] <;> omega)
 rw [slicePick_cut,← hlen]
 refine ⟨.ref s.heap.objs.size,_,I.laid (t':=s.toks) (o:=.lst (cutV xs lo hi)) (fun b ob q=>Heap.get?_push_of_some _ q) (Nat.le_refl _) ?_,rfl,q _ (I.hok.fresh (Nat.le_refl _))⟩
 exact ⟨Nat.le_trans (cutV_length xs lo hi) hz,_,0,(r.drop (HT.sIx xs.length 0 lo)).take (HT.sIx xs.length xs.length hi - HT.sIx xs.length 0 lo),Heap.get?_push_size _ rfl⟩
theorem call_len_seq:CallR X (.builtin "len") (fun xs H Q=>∃ p ys,xs = [.ref p]∧(SqL X.K H p ys∨SqT X.K H p ys)∧Q (.int ys.length) H):=by
 intro pins s σ H xs us Q I r h
 obtain ⟨p,ys,rfl,hq,q⟩:=h
 obtain ⟨u,rfl,rx⟩:=vals1 r
 cases rx
 have hn:=line63
 rcases hq with hq | hq
 ·obtain ⟨its,r',pl,hz⟩:=I.list hq
  have hlen:=r'.length
  exact Calls.call_len_list pl.isList (by simp only [List.size_toArray] <;> omega) ⟨.int ys.length,H,I.tok _,⟨s.toks+1,by rw [List.size_toArray,hlen]⟩,q⟩
 ·obtain ⟨its,r',pl,hz⟩:=I.tuple hq
  have hlen:=r'.length
  exact len_tuple pl (by simp only [List.size_toArray] <;> omega) ⟨.int ys.length,H,I.tok _,⟨s.toks+1,by rw [List.size_toArray,hlen]⟩,q⟩
theorem call_list_of:CallR X (.type "list") (fun xs H Q=>∃ p ys,xs = [.ref p]∧(SqL X.K H p ys∨SqT X.K H p ys)∧∀ l,H l = none→Q (.ref l) (upd H l (.lst ys))):=by
 intro pins s σ H xs us Q I r h
 obtain ⟨p,ys,rfl,hq,q⟩:=h
 obtain ⟨u,rfl,rx⟩:=vals1 r
 cases rx
 have fin:∀ (its:List Value),Vals ys its→ys.length≤sizeLine→∀ (h':Heap) (c':Nat),(∀ b o',s.heap.get? b = some o'→h'.get? b = some o') →
   h'.get? s.heap.objs.size = some { cls:=.type "list",dict:=none,data:=.seq its.toArray c',slots:=#[] }→EP X pins σ Q (.ref s.heap.objs.size) { s with heap:=h' }:=fun its r' hz h' c' kp e =>
  ⟨.ref s.heap.objs.size,_,I.laid (t':=s.toks) kp (Nat.le_refl _) (show ObjOk X.prog X.w _ h' _ (.lst ys) from ⟨hz,its,c',r',e⟩),rfl,q _ (I.hok.fresh (Nat.le_refl _))⟩
 rcases hq with hq | hq
 ·obtain ⟨its,r',pl,hz⟩:=I.list hq
  have hlen:=r'.length
  obtain ⟨o,ho,hc,n,hd⟩:=pl.isList
  exact call_list_seq p (.inl rfl) ho hc hd (fun h' c' kp e=>fin its r' hz h' c' kp e) (by simp only [List.size_toArray] <;> omega)
 ·obtain ⟨its,r',pl,hz⟩:=I.tuple hq
  have hlen:=r'.length
  obtain ⟨o,ho,hc,n,hd⟩:=pl
  exact call_list_seq p (.inr rfl) ho hc hd (fun h' c' kp e=>fin its r' hz h' c' kp e) (by simp only [List.size_toArray] <;> omega)
def tyV (K:PySem.W.Frag) (T:String) (x:V) (H:Hp):Prop:=match x with
 | .str _=>T = "str"
 | .int _=>T = "int"
 | .ref p=>(T = "list"∧∃ xs,SqL K H p xs)∨(T = "tuple"∧∃ o,K.lookup p = some o∧o.cls = .type "tuple"∧o.dict = none) ∨
   (T = "dict"∧((∃ kvs,H p = some (.dK kvs))∨∃ kvs,H p = some (.dT kvs)))∨(T = "set"∧∃ S n,H p = some (.set S n))
 | _=>False
theorem tyV_is {pins:List (Addr×Obj)} {σ:St} {H:Hp} {s:Shared} {T:String} {x:V} {v:Value} (I:Inv X pins σ H s) (r:RelV x v) (ty:tyV X.K T x H) :
  s.TypeIs v T∧∀ a,v = .ref a→∃ ob,s.heap.get? a = some ob∧ob.dict = none:=by
 cases x with
 | str z =>
  obtain ⟨t,rfl⟩:=r
  cases (show T = "str" from ty)
  exact ⟨typeIs_str s z t,fun _ e=>nomatch e⟩
 | int i =>
  obtain ⟨t,rfl⟩:=r
  cases (show T = "int" from ty)
  exact ⟨typeIs_int s i t,fun _ e=>nomatch e⟩
 | ref p =>
  cases r
  rcases ty with ⟨rfl,xs,hq⟩ | ⟨rfl,o,hk,hc,hd⟩ | ⟨rfl,hk⟩ | ⟨rfl,S,n,hk⟩
  ·obtain ⟨its,_,pl,_⟩:=I.list hq
   refine ⟨pl.isList.typeIs,fun a e=>?_⟩
   cases e
   obtain ⟨o,n,e,c,hd,_⟩:=pl
   exact ⟨o,e,hd⟩
  ·refine ⟨⟨o,I.kIn p o hk,hc⟩,fun a e=>?_⟩
   cases e
   exact ⟨o,I.kIn _ o hk,hd⟩
  ·have z:∃ o,s.heap.get? p = some o∧o.ExactDict:=by
    rcases hk with ⟨kvs,hk⟩ | ⟨kvs,hk⟩
    ·obtain ⟨_,_,_,_,o,_,_,e,ex,_⟩:=I.hok p _ hk
     exact ⟨o,e,ex⟩
    ·obtain ⟨_,_,_,_,o,_,_,e,ex,_⟩:=I.hok p _ hk
     exact ⟨o,e,ex⟩
   obtain ⟨o,e,ex⟩:=z
   refine ⟨⟨o,e,ex.1⟩,fun a e2=>?_⟩
   cases e2
   exact ⟨o,e,ex.2.1⟩
  ·obtain ⟨o,_,_,_,e,ex,_⟩:=I.hok p _ hk
   refine ⟨⟨o,e,ex.1⟩,fun a e2=>?_⟩
   cases e2
   exact ⟨o,e,ex.2.1⟩
 | _=>exact False.elim ty
def tBM0 (K:PySem.W.Frag) (T:String) (r:V→List V→Hp→VK→Prop) (to:TE):TE:=fun σ H Q=>to σ H fun x H1=>tyV K T x H1∧r x [] H1 Q
def tBM (K:PySem.W.Frag) (T:String) (r:V→List V→Hp→VK→Prop) (to:TE) (t:TA):TE:=fun σ H Q=>to σ H fun x H1=>tyV K T x H1∧t σ H1 fun xs H2=>r x xs H2 Q
variable {o e:Expr} {es:List Expr} {to:TE} {t:TA} {name:Str} {apos cpos:Pos} {T id:String} {r:V→List V→Hp→VK→Prop}
theorem pe_bm0 (pa:PlainAttrs T) (slot:Slot T name id) (hty:typeOf (.builtin id) = pure (.type "method_descriptor")) (hm:MtR X id r) (ho:PE X o to)
  (hbase:attributeBase o name X.env (eval o X.env) = eval o X.env:=by rfl) (hline:(apos.endLine == cpos.line) = true:=by rfl):PE X (.Call (.Attribute o name apos) [] [] cpos) (tBM0 X.K T r to):=by
 intro pins s σ H Q I h
 refine wpAny_Call_method0_late hbase hline (thn (ho pins s σ H _ I h) fun v s1 ⟨x,H1,I1,r1,ty,q1⟩=>?_)
 obtain ⟨h1,h2⟩:=tyV_is I1 r1 ty
 exact ⟨T,id,pa,slot,hty,h1,h2,Calls.callWith_builtin rfl (PySem.evalArgs_none (hm pins s1 σ H1 x [] v [] Q I1 r1 .nil q1))⟩
theorem pe_bm (pa:PlainAttrs T) (slot:Slot T name id) (hty:typeOf (.builtin id) = pure (.type "method_descriptor")) (hm:MtR X id r) (ho:PE X o to) (ha:PA X (e :: es) t)
  (hbase:attributeBase o name X.env (eval o X.env) = eval o X.env:=by rfl)
  (hfew:((backTo cpos (starEach (e :: es) X.env)).all (fun x=>!x.1) && (backToKw cpos (keywordEach [] X.env)).all (fun x=>x.1.isSome)
   && decide ((e :: es).length+([]:List Keyword).length+(if ([]:List Keyword).isEmpty then 0 else 1) < 30)) = true:=by rfl)
  (hline:(apos.endLine == cpos.line) = true:=by rfl) (hs:starEach (e :: es) X.env = (false,eval e X.env) :: starEach es X.env:=by rfl) (hplain:(backTo cpos (starEach es X.env)).any (·.1) = false:=by rfl) :
  PE X (.Call (.Attribute o name apos) (e :: es) [] cpos) (tBM X.K T r to t):=by
 intro pins s σ H Q I h
 refine wpAny_Call_method_late hbase hfew hline rfl (thn (ho pins s σ H _ I h) fun v s1 ⟨x,H1,I1,r1,ty,q1⟩=>?_)
 obtain ⟨h1,h2⟩:=tyV_is I1 r1 ty
 refine ⟨T,id,pa,slot,hty,h1,h2,?_⟩
 have hA:=ha cpos pins s1 σ H1 _ I1 q1
 rw [hs] at hA ⊢
 refine Calls.callWith_builtin (by show (false || (backTo cpos (starEach es X.env)).any (·.1)) = false; rw [hplain] <;> rfl) (Calls.evalArgs_plain ?_)
 exact thn hA fun us s2 ⟨vs,H2,I2,r2,q2⟩=>hm pins s2 σ H2 x vs v us Q I2 r1 r2 q2
end
end L2
namespace L2
open PySem PySem.Spec PyProof.Rows
def MtM (X:Cx) (id:String) (r:V→List V→Hp→VK→Prop):Prop :=
 ∀ (pins:List (Addr×Obj)) (s:Shared) (σ:St) (H:Hp) (x:V) (xs:List V) (v:Value) (us:List Value) (Q:VK),Inv X pins σ H s→RelV x v→Vals xs us→r x xs H Q →
  wpAny (model X.prog X.w) X.A (call (.builtin id) (v :: us)) (EP X pins σ Q) X.xe s
theorem Vals.one:∀ {x:V} {us:List Value},Vals [x] us→∃ u,us = [u]∧RelV x u
 | _,_,.cons r .nil=>⟨_,rfl,r⟩
theorem Vals.two:∀ {x y:V} {us:List Value},Vals [x,y] us→∃ u v,us = [u,v]∧RelV x u∧RelV y v
 | _,_,_,.cons r (.cons q .nil)=>⟨_,_,rfl,r,q⟩
theorem Vals.zero:∀ {us:List Value},Vals [] us→us = []
 | _,.nil=>rfl
theorem Vals.dropLast {xs:List V} {us:List Value} (h:Vals xs us):Vals xs.dropLast us.dropLast:=by
 induction h with
 | nil=>exact .nil
 | cons r t ih =>
  cases t with
  | nil=>exact .nil
  | cons q t'=>exact .cons r ih
theorem Vals.eraseIdx:∀ {xs:List V} {us:List Value} (i:Nat),Vals xs us→Vals (xs.eraseIdx i) (us.eraseIdx i)
 | _,_,_,.nil=>.nil
 | _,_,0,.cons _ t=>t
 | _,_,i+1,.cons r t=>.cons r (Vals.eraseIdx i t)
theorem Vals.reverse {xs:List V} {us:List Value} (h:Vals xs us):Vals xs.reverse us.reverse:=by
 induction h with
 | nil=>exact .nil
 | cons r t ih=>rw [List.reverse_cons,List.reverse_cons]; exact Vals.append ih (.cons r .nil)
theorem Vals.rep {xs:List V} {us:List Value} (h:Vals xs us):∀ k:Nat,Vals (List.replicate k xs).flatten (List.replicate k us).flatten
 | 0=>.nil
 | k+1=>by
  rw [List.replicate_succ,List.replicate_succ,List.flatten_cons,List.flatten_cons]
  exact Vals.append h (Vals.rep h k)
theorem erase_last {α:Type} (l:List α):l.eraseIdx (l.length - 1) = l.dropLast:=by
 induction l with
 | nil=>rfl
 | cons a r ih =>
  cases r with
  | nil=>rfl
  | cons b r =>
   have e:(a :: b :: r).length - 1 = ((b :: r).length - 1)+1:=by
    have h1:(a :: b :: r).length = r.length+2:=rfl
    have h2:(b :: r).length = r.length+1:=rfl
    omega
   rw [e,List.eraseIdx_cons_succ,ih]
   all_goals rfl
section
variable {X:Cx} {pins:List (Addr×Obj)} {σ:St} {H:Hp} {s:Shared} {l b:Addr} {xs ys zs:List V}
theorem Inv.lset {its its':List Value} {n:Nat} {f:Array Value→Array Value} {t':Nat} (I:Inv X pins σ H s) (hH:H l = some (.lst xs))
  (e:s.heap.get? l = some { cls:=.type "list",data:=.seq its.toArray n }) (hf:f its.toArray = its'.toArray) (hv:Vals ys its') (hz:ys.length≤sizeLine) :
  Inv X pins σ (upd H l (.lst ys)) { s with heap:=s.heap.update l (Obj.mapSeq f),toks:=t' }:=by
 have q:=PySem.IsL.update e f
 rw [hf] at q
 refine I.write (x:=l) (e:=l) (by rw [hH]; exact trivial) (.inl rfl) (fun b' u hb hu=>(Heap.get?_update_other s.heap (Obj.mapSeq f) (Ne.symm hb)).trans hu) ⟨_,q⟩ ?_
 exact ⟨hz,its',_,hv,q⟩
theorem Inv.lnew {its:List Value} {t':Nat} (I:Inv X pins σ H s) (hv:Vals ys its) (hz:ys.length≤sizeLine) :
  Inv X pins σ (upd H s.heap.objs.size (.lst ys)) { s with heap:=s.heap.push { cls:=.type "list",data:=.seq its.toArray },toks:=t' } :=
 I.laid (fun _ _ q=>Heap.get?_push_of_some _ q) (Nat.le_refl _) ⟨hz,its,0,hv,Heap.get?_push_size _ rfl⟩
theorem Inv.fresh (I:Inv X pins σ H s):H s.heap.objs.size = none:=I.hok.fresh (Nat.le_refl _)
theorem Inv.lstM (I:Inv X pins σ H s) (hH:H l = some (.lst xs)):xs.length≤sizeLine∧∃ (its:List Value) (n:Nat),Vals xs its∧xs.length = its.length∧s.heap.get? l = some { cls:=.type "list",data:=.seq its.toArray n }:=by
 obtain ⟨z,its,n,r,e⟩:=I.hok l _ hH
 exact ⟨z,its,n,r,r.length,e⟩
theorem notLongL {n:Nat} (h:n≤sizeLine):Builtin.List.listTooLong n = false:=by
 unfold Builtin.List.listTooLong
 exact decide_eq_false (by omega)
end
section
variable {X:Cx}
def rAppend:V→List V→Hp→VK→Prop:=fun x vs H Q=>∃ l xs y,x = .ref l∧vs = [y]∧H l = some (.lst xs)∧xs.length < sizeLine∧Q .non (upd H l (.lst (xs++[y])))
theorem mt_append:MtM X "list.append" rAppend:=by
 intro pins s σ H x vs v us Q I rx rv h
 obtain ⟨l,xs,y,rfl,rfl,hH,hz,q⟩:=h
 cases rx
 obtain ⟨u,rfl,ru⟩:=rv.one
 obtain ⟨z,its,n,r,hl,e⟩:=I.lstM hH
 refine call_meets F.slot_list_append ⟨_,e,rfl⟩ F.entry_list_append (F.args_list_append_2 _ _) (PySem.list_append l its.toArray n u (by rw [List.size_toArray]; omega)) ⟨e,?_⟩
 refine ⟨.non,_,I.lset (its':=its++[u]) hH e (by simp) (r.append (.cons ru .nil)) ?_,rfl,q⟩
 rw [List.length_append,List.length_singleton]
 omega
def rExtend:V→List V→Hp→VK→Prop:=fun x vs H Q=>∃ l b xs zs,x = .ref l∧vs = [.ref b]∧H l = some (.lst xs)∧H b = some (.lst zs)∧xs.length+zs.length≤sizeLine∧Q .non (upd H l (.lst (xs++zs)))
theorem mt_extend:MtM X "list.extend" rExtend:=by
 intro pins s σ H x vs v us Q I rx rv h
 obtain ⟨l,b,xs,zs,rfl,rfl,hH,hB,hz,q⟩:=h
 cases rx
 obtain ⟨u,rfl,ru⟩:=rv.one
 cases ru
 obtain ⟨z,its,n,r,hl,e⟩:=I.lstM hH
 obtain ⟨z2,its2,n2,r2,hl2,e2⟩:=I.lstM hB
 have hsz:its.toArray.size+its2.toArray.size≤sizeLine:=by rw [List.size_toArray,List.size_toArray]; omega
 have hlong:¬ (!its.toArray.isEmpty && Builtin.List.listTooLong (its.toArray.size+its2.toArray.size)) = true:=by
  rw [notLongL hsz,Bool.and_false]
  exact Bool.false_ne_true
 refine call_meets F.slot_list_extend ⟨_,e,rfl⟩ F.entry_list_extend (F.args_list_extend_2 _ _)
  (AutoSeq1.list_extend_list_list_0 l its.toArray n b its2.toArray n2 hlong (by rw [List.size_toArray]; omega) (by omega)) ⟨e,e2,?_⟩
 refine ⟨.non,_,I.lset (its':=its++its2) hH e (by simp) (r.append r2) ?_,rfl,q⟩
 rw [List.length_append]
 omega
def rPop:V→List V→Hp→VK→Prop:=fun x vs H Q=>∃ l xs y,x = .ref l∧vs = []∧H l = some (.lst xs)∧xs[xs.length - 1]? = some y∧Q y (upd H l (.lst xs.dropLast))
theorem mt_pop:MtM X "list.pop" rPop:=by
 intro pins s σ H x vs v us Q I rx rv h
 obtain ⟨l,xs,y,rfl,rfl,hH,hy,q⟩:=h
 cases rx
 have hus:=rv.zero
 subst hus
 obtain ⟨z,its,n,r,hl,e⟩:=I.lstM hH
 obtain ⟨u,hu,ru⟩:=r.get hy
 have hy':its.toArray[its.toArray.size - 1]? = some u:=by
  show its.toArray[its.length - 1]? = some u
  rw [← Array.getElem?_toList,← hl]
  exact hu
 refine call_meets F.slot_list_pop ⟨_,e,rfl⟩ F.entry_list_pop (F.args_list_pop_1 _) (MeetsSeq.list_pop_last l its.toArray n u hy' (by rw [List.size_toArray]; omega)) ⟨e,?_⟩
 refine ⟨y,_,I.lset (its':=its.dropLast) hH e ?_ r.dropLast ?_,ru,q⟩
 ·show its.toArray.eraseIdxIfInBounds (its.toArray.size - 1) = its.dropLast.toArray
  rw [List.size_toArray,List.eraseIdxIfInBounds_toArray,erase_last]
 ·rw [List.length_dropLast]
  omega
def rCat:R2:=fun x y H Q=>∃ l b xs zs,x = .ref l∧y = .ref b∧H l = some (.lst xs)∧H b = some (.lst zs)∧xs.length+zs.length≤sizeLine∧∀ p,H p = none→Q (.ref p) (upd H p (.lst (xs++zs)))
theorem op_cat:OpR X (binaryOp .Add) rCat:=by
 intro pins s σ H x y v u Q I rx ry h
 obtain ⟨l,b,xs,zs,rfl,rfl,hH,hB,hz,q⟩:=h
 cases rx
 cases ry
 obtain ⟨z,its,n,r,hl,e⟩:=I.lstM hH
 obtain ⟨z2,its2,n2,r2,hl2,e2⟩:=I.lstM hB
 refine PySem.P.add_list e e2 ?_ (by rw [List.size_toArray,List.size_toArray]; omega)
 have ea:its.toArray++its2.toArray = (its++its2).toArray:=by simp
 rw [ea]
 exact ⟨.ref _,_,I.lnew (t':=s.toks) (r.append r2) (by rw [List.length_append]; omega),rfl,q _ I.fresh⟩
end
section
variable {prog:Program} {w:World} {A:Around} {E:Value→Shared→Prop} {s:Shared}
end
section
variable {X:Cx}
end
end L2
namespace Att
open PySem PySem.W PySem.Calls PyProof.Rows
theorem ints_of_wellAll {P:Params} {h:Heap}:∀ (ns:List Int) (vs:List Value),WellAll P h vs (ns.map WData.int)→IntsAre vs ns:=by
 intro ns
 induction ns with
 | nil =>
  intro vs w
  rw [List.map_nil] at w
  cases w
  exact .nil
 | cons n ns ih =>
  intro vs w
  rw [List.map_cons] at w
  cases w with
  | cons a b =>
   cases a
   exact .cons _ _ (ih _ b)
theorem script_of {l:OpenLaw} {n:Nat} (hn:l.most = some n) {P:Params} {h:Heap} {args:List WData} {vals:List Value}
  (hpre:l.row.toRowW.claim.pre args = true) (hwl:WellAll P h vals args) :
  ∃ a vs ns,vals = [Value.ref a]∧args = [WData.list (ns.map WData.int)]∧h.get? a = some { cls:=.type "list",data:=.seq vs.toArray }∧IntsAre vs ns∧ns.length≤n:=by
 have hsh:WShape.hasAll [] args [.list .int] = true:=(pre_splitW hpre).1
 have hc:l.pre.holds [] { args:=args } = true:=(pre_splitW hpre).2
 obtain ⟨d,r,rfl,h1,h2⟩:=hasAllW_cons hsh
 obtain rfl:=hasAllW_nil h2
 obtain ⟨xs,rfl,h3⟩:=hasW_list h1
 obtain ⟨ns,rfl⟩:=items_int h3
 have hlen:ns.length≤n:=by
  unfold OpenLaw.pre at hc
  have h4:(WTm.not (.lt (.lit (.int (n:Int))) (.len (.arg 0)))).holds [] { args:=[.list (ns.map .int)] } = true:=by
   have h4:=(holds_andW hc).1
   rw [hn] at h4
   exact h4
  have h5:=condW_of h4 (w_not (w_lt w_lit (w_len_list (w_arg rfl))))
  rw [List.length_map] at h5
  refine Nat.le_of_not_lt fun q=>?_
  have q':(n:Int) < ((ns.length:Nat):Int):=by omega
  first
   | (rw [decide_eq_true q'] at h5; exact absurd h5 (by decide))
   | (simp at h5; omega)
 cases hwl with
 | cons w1 w2 =>
  cases w2
  cases w1 with
  | list ho hall=>exact ⟨_,_,ns,rfl,rfl,ho,ints_of_wellAll ns _ hall,hlen⟩
theorem post_true (l:OpenLaw) (args:List WData):l.row.toRowW.claim.post args (.bool true) args = true :=
 postW_of (r:=l.row.toRowW) (X:=(true == true))
  (show WShape.has [] (.bool true) .bool = true by first | rfl | decide | simp [WShape.has,WShape.arms,WShape.armsAll])
  (show (WTm.eq .res (.lit (.bool true))).value [] { args:=args,res:=some (.bool true),after:=args } = some (.bool (true == true)) from w_eq_bool (w_res rfl) w_lit) rfl
theorem attach_call {l:OpenLaw} {n:Nat} {q:Program} {loose:List Str} {XP:(Str→Option Value)→Heap→Prop} {YP:World→Heap→Prop} {d:DefRec}
  (hn:l.most = some n) (hdf:d.params.defaults = [])
  (call:∀ (w:World) (s₀ s₁:Shared) (mg mb:Str→Option Value) (fa:Addr) (o:Obj) (pm cd doc:Value) (a:Addr) (vs:List Value) (ns:List Int),
   Ground q loose [] XP w s₀ mg mb s₁.heap→YP w s₁.heap →
   s₁.heap.get? fa = some o→o.data = .func (docDef d.name d.params d.body d.scope pm cd doc)→s₁.heap.CodeRec cd d.name→mg d.name = some (.ref fa) →
   s₁.heap.get? a = some { cls:=.type "list",data:=.seq vs.toArray }→IntsAre vs ns→ns.length≤n→s₁.gens = #[] →
   codeAny (model l.prog w) callerA (.call (.ref fa) ⟨[.ref a],[]⟩) (fun r s'=>r = .ok (.ret (.bool true))∧OldK s₁.heap s'.heap∧s'.os = s₁.os∧AllBare s'.gens) s₁) :
  WalkO q loose XP YP l.row.toRowW d [] (fun f vs=>PySem.call f vs):=by
 intro w s₀ s₁ mg mb G Y fa o pm cd doc dV kV ho hd hcd hD hmg hg args vals as hpre hlay hrd hwl hlo
 obtain rfl:dV = .none:=Dflts.none hD hdf
 obtain rfl:kV = .none:=Dflts.noKw hD
 obtain ⟨a,vs,ns,rfl,rfl,hobj,hints,hlen⟩:=script_of hn hpre hwl
 refine enter_call (codeAny_mono (call w s₀ s₁ mg mb fa o pm cd doc a vs ns G Y ho (fd_plain hd) hcd hmg hobj hints hlen hg) fun r s' hq=>?_)
 obtain ⟨rfl,h2,h3,h4⟩:=hq
 exact ⟨.inl ⟨.bool true,.bool true,[],rfl,fun _=>rfl,.bool true,post_true l _,fun _=>⟨List.Pairwise.nil,fun _ hm=>(nomatch hm)⟩⟩,h2,h3,h4⟩
section
variable {prog:Program} {w:World} {A:Around} {E:Value→Shared→Prop} {s:Shared} {K:Frag}
end
end Att
namespace L2
open PySem PySem.Spec PyProof.Rows
theorem vals_ints:∀ {vs:List Value} {ns:List Int},IntsAre vs ns→Vals (ns.map V.int) vs
 | _,_,.nil=>.nil
 | _,_,.cons n t h=>.cons ⟨t,rfl⟩ (vals_ints h)
def Only (H:Hp):Prop:=∀ b,H b = none∨∃ o xs,H b = some (.frz o (.lst xs))
theorem law_call {P:Program} {w:World} {K:PySem.W.Frag} {mg mb:Str→Option Value} {CX:CXT} {k:Nat} {fa a:Addr} {fd:FuncData} {x:Str} {sp:Sp} {s₁:Shared} {vs:List Value} {ns:List Int}
  (KX:K.In s₁.heap) (hns:s₁.heap.Ns mainGlobals mg) (hb:s₁.heap.Ns builtinsNs mb) (hbb:∀ x:Str,x ≠ "__name__"→mb x = bootBuiltins x) (hlim:s₁.heap.NoLimit) (hg:s₁.gens = #[])
  (ha:s₁.heap.get? a = some { cls:=.type "list",data:=.seq vs.toArray }) (hi:IntsAre vs ns) (hl:ns.length≤sizeLine) (hr:Room k callerA)
  (F:∀ base:Heap,K.In base→base.Ns mainGlobals mg→FnOk P w K mg base CX k fa fd [x] sp) (hbind:∀ (s:Shared) (u:Value),BindsTo s fd ⟨[u],[]⟩ [(x,u)])
  (hsp:∀ H:Hp,Only H→SqL K H a (ns.map V.int)→sp [.ref a] H (fun v _=>v = .bl true) fun _ _ _=>False)
  (hCX:∀ H e s',CX [] H s₁ (fun _ _ _=>False) e s'→False) :
  codeAny (model P w) callerA (.call (.ref fa) ⟨[.ref a],[]⟩) (fun r s'=>r = .ok (.ret (.bool true))∧OldK s₁.heap s'.heap∧s'.os = s₁.os∧AllBare s'.gens) s₁:=by
 have rv:=vals_ints hi
 have lenV:=hi.length
 have core:∀ H:Hp,Only H→SqL K H a (ns.map V.int)→HOk P w H s₁.heap→(∀ b,H b ≠ none→b = a)→(H a ≠ none→K.lookup a = none) →
   codeAny (model P w) callerA (.call (.ref fa) ⟨[.ref a],[]⟩) (fun r s'=>r = .ok (.ret (.bool true))∧OldK s₁.heap s'.heap∧s'.os = s₁.os∧AllBare s'.gens) s₁:=by
  intro H hO hS hok hA hK
  have base_of:∀ {b:Addr} {o:Obj},s₁.heap.get? b = some o→H b = none→(hidT s₁.heap H).get? b = some o:=fun e n=>hidT_get e n
  have noA:∀ {b:Addr} {o:Obj} {es:Array DictEntry} {ep:Nat},s₁.heap.get? b = some o→o.data = .dict es ep→H b = none:=fun {b o es ep} e d=>by
   cases q:H b with
   | none=>rfl
   | some u =>
    have e':b = a:=hA b (by rw [q]; simp)
    subst e'
    rw [ha] at e; cases e
    have d':Data.seq vs.toArray _ = Data.dict es ep:=d
    cases d'
  have nsK:∀ {b:Addr} {m:Str→Option Value},s₁.heap.Ns b m→(hidT s₁.heap H).Ns b m:=fun {b m} ⟨o,es,ep,e,d,r⟩=>⟨o,es,ep,base_of e (noA e d),d,r⟩
  have hKb:K.In (hidT s₁.heap H):=fun b o e=>base_of (KX b o e) (by
   cases q:H b with
   | none=>rfl
   | some u =>
    have e':b = a:=hA b (by rw [q]; simp)
    subst e'
    rw [hK (by rw [q]; simp)] at e; cases e)
  have hM:Mod K mg (hidT s₁.heap H):=⟨hKb,nsK hns,⟨mb,nsK hb,hbb⟩,let ⟨mc,h1,h2⟩:=hlim; ⟨mc,nsK h1,h2⟩⟩
  have e0:Env0 P w K mg (hidT s₁.heap H) callerA [] s₁ H:=⟨rfl,hM,fun b o e=>of_hidT e,Nat.le_of_eq (hidT_size _ _),trivial,fun b hb=>absurd (show b ∈ ([]:List Addr) from hb) (by simp),hok,.of_eq hg⟩
  refine codeAny_mono ((F _ hKb (nsK hns)).run callerA [] s₁ H ⟨[.ref a],[]⟩ [.ref a] [.ref a] _ _ hr e0 (hbind s₁ (.ref a)) (.cons rfl .nil) (hsp H hO hS)) fun r s' h=>?_
  cases r with
  | error e=>exact (hCX H e s' h).elim
  | ok fl =>
   cases fl with
   | next=>exact False.elim h
   | brk=>exact False.elim h
   | cont=>exact False.elim h
   | ret u =>
    obtain ⟨v,H',os,bare,un,hok',r',q⟩:=h
    have q':v = .bl true:=q
    subst q'
    obtain rfl:u = Value.bool true:=r'
    refine ⟨rfl,OldK.of_keep fun b o e=>?_,os,bare⟩
    cases q:H b with
    | none=>exact un.keep b o e q (by intro z; exact absurd (show b ∈ ([]:List Addr) from z) (by simp)) (by simp)
    | some u =>
     rcases hO b with z | ⟨ob,xs,z⟩
     ·rw [q] at z; cases z
     ·have z2:=un.frzs b ob _ z
      obtain ⟨e1,_⟩:=hok b _ z
      obtain ⟨e2,_⟩:=hok' b _ z2
      rw [e] at e1; cases e1
      exact e2
 cases hk:K.lookup a with
 | some o =>
  have e:=KX a o hk
  rw [ha] at e
  cases e
  refine core (fun _=>none) (fun _=>.inl rfl) (.inr ⟨_,vs.toArray,_,hk,rfl,rfl,rfl,by rw [List.size_toArray,lenV]; exact hl,by simpa using rv⟩) (fun b u z=>by have z':(none:Option HO) = some u:=z; cases z') (fun b z=>absurd rfl z) fun z=>absurd rfl z
 | none =>
  refine core (fun b=>if b = a then some (.frz { cls:=.type "list",data:=.seq vs.toArray } (.lst (ns.map V.int))) else none) (fun b=>?_) (.inl (.inr ⟨{ cls:=.type "list",data:=.seq vs.toArray },if_pos rfl⟩)) (fun b u z=>?_) (fun b z=>?_) fun _=>hk
  ·by_cases hb:b = a
   ·exact .inr ⟨_,_,if_pos hb⟩
   ·exact .inl (if_neg hb)
  ·by_cases hb:b = a
   ·have z':=(if_pos hb).symm.trans z
    cases z'
    subst hb
    exact ⟨ha,by rw [List.length_map]; exact hl,vs,_,rv,ha⟩
   ·have z':=(if_neg hb).symm.trans z
    cases z'
  ·by_cases hb:b = a
   ·exact hb
   ·exact absurd (if_neg hb) z
end L2
namespace L2
open PySem PySem.Spec PyProof.Rows
theorem walk_of {l:PySem.W.OpenLaw} {n k:Nat} {q:Program} {loose:List Str} {XP:(Str→Option Value)→Heap→Prop} {YP:World→Heap→Prop} {d:DefRec} {K:Params→PySem.W.Frag} {CX:World→CXT} {sp:World→Sp} {x:Str}
  (hn:l.most = some n) (hn2:n≤sizeLine) (hdf:d.params.defaults = []) (hr:Room k callerA)
  (hY:∀ (w:World) (h:Heap),YP w h→(K w.params).In h)
  (F:∀ (w:World) (mg:Str→Option Value) (fa:Addr) (h:Heap),(K w.params).In h→h.Ns mainGlobals mg→mg d.name = some (.ref fa) →
   ∃ fd:FuncData,(∀ (s:Shared) (u:Value),BindsTo s fd ⟨[u],[]⟩ [(x,u)]) ∧
    ∀ base:Heap,(K w.params).In base→base.Ns mainGlobals mg→FnOk l.prog w (K w.params) mg base (CX w) k fa fd [x] (sp w))
  (hsp:∀ (w:World) (H:Hp) (a:Addr) (ns:List Int),ns.length≤n→Only H→SqL (K w.params) H a (ns.map V.int)→sp w [.ref a] H (fun v _=>v = .bl true) fun _ _ _=>False)
  (hCX:∀ (w:World) (H:Hp) (s:Shared) (e:Value) (s':Shared),CX w [] H s (fun _ _ _=>False) e s'→False) :
  PySem.W.WalkO q loose XP YP l.row.toRowW d [] (fun f vs=>PySem.call f vs):=by
 refine Att.attach_call hn hdf fun w s₀ s₁ mg mb fa o pm cd doc a vs ns G Y ho hd hcd hmg hobj hints hlen hg=>?_
 have KX:=hY w _ Y
 obtain ⟨fd,hb,hF⟩:=F w mg fa _ KX G.T.g hmg
 exact law_call KX G.T.g G.T.b G.T.builtins G.T.nolimit hg hobj hints (Nat.le_trans hlen hn2) hr hF hb (fun H hO hS=>hsp w H a ns hlen hO hS) fun H e s'=>hCX w H s₁ e s'
end L2
namespace L2
open PySem PySem.Spec PyProof.Rows
def defArgs (s:Stmt):Arguments:=match s with
 | .FunctionDef _ a _ _ _ _ _ _ _ _=>a
 | _=>{ posonlyargs:=[],args:=[],vararg:=none,kwonlyargs:=[],kw_defaults:=[],kwarg:=none,defaults:=[] }
def defBody (s:Stmt):List Stmt:=match s with
 | .FunctionDef _ _ b _ _ _ _ _ _ _=>b
 | _=>[]
def defScope (s:Stmt):Scope:=match s with
 | .FunctionDef _ _ _ _ _ _ sc _ _ _=>sc
 | _=>{ kind:=.function,names:=[],isGenerator:=false,isCoroutine:=false }
abbrev CX0:CXT:=fun _ _ _ _ _ _=>False
abbrev E0:XK:=fun _ _ _=>False
theorem pass0 {X:Cx}:Passes CX0 X E0:=fun _ _ _ _ _ _ _ h=>h.elim
structure Fun (K:PySem.W.Frag) (x qual:Str) (st:Stmt) (f:Addr) (fd:FuncData):Prop where
 ex:∃ (oc:Value) (od:Option Addr) (kV doc pm:Value) (an:Option Addr) (cdv ct:Value) (osl:Array (Option Value)),
  fd = PySem.W.fnOf x qual (defArgs st) (defBody st) (defScope st) .none kV doc pm an cdv ct∧K.lookup f = some ⟨oc,od,.func fd,osl⟩∧PySem.W.codeIn K cdv qual = true
 kp:PySem.W.keepIn K (.ref f) = true
section
variable {P:Program} {w:World} {K:PySem.W.Frag} {mg:Str→Option Value} {base:Heap}
theorem Fun.ok {x qual:Str} {st:Stmt} {f:Addr} {fd:FuncData} {N ps:List Str} {k:Nat} {sp:Sp} (F:Fun K x qual st f fd) (S:FnScope N ps (defScope st)) (len:∀ vs H Q E,sp vs H Q E→vs.length = ps.length)
  (hbody:∀ (cdv:Value) (A:Around) (outer:List Env) (s:Shared) (H:Hp) (vs:List V) (Q:VK) (E:XK),Room k (A.deeper (envOfC qual (defScope st) s.heap.objs.size f cdv))→sp vs H Q E →
   ∃ t,PSs (cxOf CX0 P w K mg base N qual (defScope st) f cdv A outer s H E).nox (defBody st) t∧t { nx:=fun _ H'=>Q .non H',rt:=Q } (start N vs) H):FnOk P w K mg base CX0 (k+1) f fd ps sp:=by
 obtain ⟨oc,od,kV,doc,pm,an,cdv,ct,osl,rfl,lk,hcd⟩:=F.ex
 refine fn_of lk hcd S len fun A outer s H vs Q E hr hsp=>?_
 obtain ⟨t,h,q⟩:=hbody cdv A outer s H vs Q E hr hsp
 exact ⟨t,h.nox,q⟩
theorem Fun.binds {x qual:Str} {st:Stmt} {f:Addr} {fd:FuncData} {ps:List Str} (F:Fun K x qual st f fd)
  (h:∀ (kV doc pm:Value) (an:Option Addr) (cdv ct:Value) (us:List Value),us.length = ps.length→bindArgs (PySem.W.fnOf x qual (defArgs st) (defBody st) (defScope st) .none kV doc pm an cdv ct) ⟨us,[]⟩ = pure (ps.zip us)):Binds K fd ps []:=by
 obtain ⟨oc,od,kV,doc,pm,an,cdv,ct,osl,rfl,lk,hcd⟩:=F.ex
 exact .all (h kV doc pm an cdv ct)
theorem fun_mk {x qual:Str} {st:Stmt} {f:Addr} {oc:Value} {od an:Option Addr} {osl:Array (Option Value)} {kV doc pm cdv ct:Value} (l:K.lookup f = some ⟨oc,od,.func (PySem.W.fnOf x qual (defArgs st) (defBody st) (defScope st) .none kV doc pm an cdv ct),osl⟩)
  (c:PySem.W.codeIn K cdv qual = true) (k:PySem.W.keepIn K (.ref f) = true):Fun K x qual st f (PySem.W.fnOf x qual (defArgs st) (defBody st) (defScope st) .none kV doc pm an cdv ct):=⟨⟨oc,od,kV,doc,pm,an,cdv,ct,osl,rfl,l,c⟩,k⟩
end
theorem hu_of {A:Around} {k:Nat} (hr:Room k A):A.units+1 < cLine:=Nat.lt_of_le_of_lt (Nat.add_le_add_left (by decide:1≤64) _) hr.units
theorem small1000 {n:Nat} (h:n≤1000):n < sizeLine:=Nat.lt_of_le_of_lt h (by decide)
section
variable {X:Cx}
theorem pv (i:Nat) {x:Str} {pos:Pos} (hN:X.N[i]? = some x:=by rfl) (hv:Vis X.env.scope x:=by first | exact Or.inl rfl | exact Or.inr (Or.inl rfl) | exact Or.inr (Or.inr rfl)) (hd:(x == ("__debug__":Str)) = false:=by decide)
  (hcd:(x == ("__classdict__":Str)) = false:=by decide):PE X (.Name x pos) (tVar i):=pe_var hN hv hd hcd
end
theorem iteF {A B:Prop} (h:B):if false = true then A else B:=by
 rw [if_neg Bool.false_ne_true]
 exact h
theorem iteT {A B:Prop} (h:A):if true = true then A else B:=by
 rw [if_pos rfl]
 exact h
theorem ite2 {c A B:Prop} [Decidable c] (h1:c→A) (h2:¬ c→B):if c then A else B:=by
 by_cases h:c
 ·rw [if_pos h]
  exact h1 h
 ·rw [if_neg h]
  exact h2 h
def Same (H H':Hp):Prop:=∀ b o,H b = some o→H' b = some o
theorem Same.refl (H:Hp):Same H H:=fun _ _ h=>h
theorem Same.trans {H H1 H2:Hp} (a:Same H H1) (b:Same H1 H2):Same H H2:=fun c o h=>b c o (a c o h)
theorem Same.free {H H':Hp} (e:Same H H') {l:Addr} (h:H' l = Option.none):H l = Option.none:=by
 cases q:H l with
 | none=>rfl
 | some o =>
  rw [e l o q] at h
  cases h
theorem Same.seq {K:PySem.W.Frag} {H H':Hp} {a:Addr} {xs:List V} (e:Same H H') (h:SqL K H a xs):SqL K H' a xs:=by
 rcases h with (h | ⟨o,h⟩) | h
 ·exact .inl (.inl (e _ _ h))
 ·exact .inl (.inr ⟨o,e _ _ h⟩)
 ·exact .inr h
end L2
namespace Geo
abbrev Pt:=Int×Int
def turn (a b c:Pt):Int:=(b.1 - a.1) * (c.2 - a.2) - (b.2 - a.2) * (c.1 - a.1)
def lin (f p:Pt):Int:=f.1 * p.1+f.2 * p.2
theorem turn_cyc (a b c:Pt):turn a b c = turn b c a:=by unfold turn; grind
theorem turn_swap (a b c:Pt):turn a b c = - turn b a c:=by unfold turn; grind
theorem turn_same (a b:Pt):turn a b a = 0:=by unfold turn; grind
theorem turn_same' (a b:Pt):turn a b b = 0:=by unfold turn; grind
theorem turn_aa (a b:Pt):turn a a b = 0:=by unfold turn; grind
theorem plu (f a b c d:Pt):(lin f b - lin f a) * turn a c d+(lin f c - lin f a) * turn a d b+(lin f d - lin f a) * turn a b c = 0:=by
 unfold turn lin; grind
theorem pos_of_mul {x y:Int} (hx:0 < x) (h:0 < x * y):0 < y:=by
 rcases Int.lt_trichotomy y 0 with h1 | h1 | h1
 ·have:=Int.mul_neg_of_pos_of_neg hx h1; omega
 ·subst h1; simp at h
 ·exact h1
theorem nonneg_of_mul {x y:Int} (hx:0 < x) (h:0≤x * y):0≤y:=by
 rcases Int.lt_or_le y 0 with h1 | h1
 ·have:=Int.mul_neg_of_pos_of_neg hx h1; omega
 ·exact h1
theorem far_turn {f a b c d:Pt} (h1:lin f a < lin f b) (h2:lin f b < lin f c) (h3:lin f c < lin f d) (k1:0 < turn a b c) (k2:0 < turn b c d):0 < turn a b d:=by
 have e:=plu f b a c d
 rw [← turn_cyc a b d] at e
 have e1:turn b a c = - turn a b c:=turn_swap _ _ _
 rw [e1] at e
 have p1:0 < (lin f b - lin f a) * turn b c d:=Int.mul_pos (by omega) k2
 have p2:0 < (lin f d - lin f b) * turn a b c:=Int.mul_pos (by omega) k1
 have p3:0 < (lin f c - lin f b) * turn a b d:=by grind
 exact pos_of_mul (by omega) p3
theorem back_turn {f a b c d:Pt} (h1:lin f a < lin f b) (h2:lin f b < lin f c) (h3:lin f c < lin f d) (k1:0 < turn a b c) (k2:0 < turn b c d):0 < turn c d a:=by
 have e:=plu f c a b d
 have p1:0 < (lin f c - lin f a) * turn b c d:=Int.mul_pos (by omega) k2
 have p2:0 < (lin f d - lin f c) * turn a b c:=Int.mul_pos (by omega) k1
 have e1:turn c b d = - turn b c d:=turn_swap _ _ _
 have e2:turn c a b = turn a b c:=by rw [turn_cyc c a b]
 rw [e1,e2] at e
 have p3:0 < (lin f c - lin f b) * turn c d a:=by grind
 exact pos_of_mul (by omega) p3
def Adj (l:List Pt) (a b:Pt):Prop:=∃ pre post,l = pre++a :: b :: post
theorem Adj.cons {l:List Pt} {a b x:Pt} (h:Adj l a b):Adj (x :: l) a b:=by
 obtain ⟨pre,post,rfl⟩:=h; exact ⟨x :: pre,post,rfl⟩
theorem Adj.cons_cases {l:List Pt} {a b x:Pt} (h:Adj (x :: l) a b):(a = x∧l.head? = some b)∨Adj l a b:=by
 obtain ⟨pre,post,e⟩:=h
 cases pre with
 | nil=>simp at e; obtain ⟨rfl,rfl⟩:=e; exact .inl ⟨rfl,rfl⟩
 | cons y pre=>simp at e; obtain ⟨rfl,rfl⟩:=e; exact .inr ⟨pre,post,rfl⟩
theorem Adj.mem {l:List Pt} {a b:Pt} (h:Adj l a b):a ∈ l∧b ∈ l:=by
 obtain ⟨pre,post,rfl⟩:=h; simp
def popB (p:Pt):List Pt→List Pt
 | b :: a :: r=>if turn a b p≤0 then popB p (a :: r) else b :: a :: r
 | s=>s
def sideRev:List Pt→List Pt→List Pt
 | st,[]=>st
 | st,p :: r=>sideRev (p :: popB p st) r
def sideOf (ps:List Pt):List Pt:=(sideRev [] ps).reverse
theorem popB_suffix (p:Pt):∀ st,popB p st <:+ st
 | []=>by simp [popB]
 | [a]=>by simp [popB]
 | b :: a :: r=>by
  unfold popB
  split
  ·exact (popB_suffix p (a :: r)).trans (List.suffix_cons _ _)
  ·exact List.suffix_refl _
theorem popB_ne (p:Pt):∀ st,st ≠ []→popB p st ≠ []
 | [],h=>absurd rfl h
 | [a],_=>by simp [popB]
 | b :: a :: r,_=>by
  unfold popB
  split
  ·exact popB_ne p (a :: r) (by simp)
  ·simp
structure Stk (f:Pt) (st dn:List Pt):Prop where
 dec:st.Pairwise (fun x y=>lin f y < lin f x)
 cvx:∀ c b a pre post,st = pre++c :: b :: a :: post→0 < turn a b c
 edge:∀ b a,Adj st b a→∀ q ∈ dn,0≤turn a b q
 sub:∀ x ∈ st,x ∈ dn
 bot:∀ q ∈ dn,∀ x,st.getLast? = some x→lin f x≤lin f q
 ne:dn ≠ []→st ≠ []
 top:∀ q ∈ dn,∀ x,st.head? = some x→q = x∨lin f q < lin f x
def Tan (f p:Pt) (st dn:List Pt):Prop:=∀ t,st.head? = some t→∀ q ∈ dn,lin f t≤lin f q→0≤turn t p q
theorem suffix_getLast {l m:List Pt} (h:l <:+ m) (hn:l ≠ []):l.getLast? = m.getLast?:=by
 obtain ⟨t,rfl⟩:=h
 rw [List.getLast?_append]
 cases e:l.getLast? with
 | none=>simp at e; exact absurd e hn
 | some x=>rfl
theorem pop_tan {f p:Pt} {dn:List Pt} (hp:∀ q ∈ dn,lin f q < lin f p):∀ (st:List Pt),
  st.Pairwise (fun x y=>lin f y < lin f x)→(∀ b a,Adj st b a→∀ q ∈ dn,0≤turn a b q)→(∀ x ∈ st,x ∈ dn)→Tan f p st dn→Tan f p (popB p st) dn
 | [],_,_,_,h=>by simpa [popB] using h
 | [a],_,_,_,h=>by simpa [popB] using h
 | b :: a :: r,hd,he,hs,h=>by
  unfold popB
  split
  ·rename_i hle
   have hd':=(List.pairwise_cons.mp hd).2
   have hab:lin f a < lin f b:=(List.pairwise_cons.mp hd).1 a (by simp)
   have hbp:lin f b < lin f p:=hp b (hs b (by simp))
   refine pop_tan hp (a :: r) hd' (fun x y hxy=>he x y hxy.cons) (fun x hx=>hs x (by simp [hx])) ?_
   intro t ht q hq htq
   simp at ht; subst ht
   have hqp:=hp q hq
   rcases Int.lt_or_le (lin f q) (lin f b) with hqb | hqb
   ·have e1:=he b a ⟨[],r,rfl⟩ q hq
    have e:=plu f a b p q
    have e2:turn a q b = - turn a b q:=by rw [turn_swap a q b,turn_cyc q a b]
    have p1:0≤(lin f p - lin f a) * turn a b q:=Int.mul_nonneg (by omega) e1
    have p2:0≤(lin f q - lin f a) * (- turn a b p):=Int.mul_nonneg (by omega) (by omega)
    rw [e2] at e
    have p3:0≤(lin f b - lin f a) * turn a p q:=by grind
    exact nonneg_of_mul (by omega) p3
   ·have e1:=h b rfl q hq hqb
    have e:=plu f p a b q
    have e2:turn p b q = - turn b p q:=turn_swap _ _ _
    have e3:turn p q a = turn a p q:=by rw [turn_cyc a p q]
    have e4:turn p a b = turn a b p:=by rw [turn_cyc p a b]
    rw [e2,e3,e4] at e
    have p1:0≤(lin f p - lin f a) * turn b p q:=Int.mul_nonneg (by omega) e1
    have p2:0≤(lin f p - lin f q) * (- turn a b p):=Int.mul_nonneg (by omega) (by omega)
    have p3:0≤(lin f p - lin f b) * turn a p q:=by grind
    exact nonneg_of_mul (by omega) p3
  ·exact h
theorem popB_top (p:Pt):∀ st b a r,popB p st = b :: a :: r→0 < turn a b p
 | [],_,_,_,h=>by simp [popB] at h
 | [x],_,_,_,h=>by simp [popB] at h
 | y :: x :: r,b,a,r',h=>by
  unfold popB at h
  split at h
  ·exact popB_top p (x :: r) b a r' h
  ·rename_i hn
   simp at h; obtain ⟨rfl,rfl,rfl⟩:=h; omega
theorem edges_to {f p:Pt}:∀ (st:List Pt),st.Pairwise (fun x y=>lin f y < lin f x)→(∀ c b a pre post,st = pre++c :: b :: a :: post→0 < turn a b c)→(∀ x ∈ st,lin f x < lin f p) →
  (∀ b a r,st = b :: a :: r→0 < turn a b p)→∀ b a,Adj st b a→0 < turn a b p
 | [],_,_,_,_,b,a,h=>by obtain ⟨pre,post,e⟩:=h; simp at e
 | [x],_,_,_,_,b,a,h=>by
  obtain ⟨pre,post,e⟩:=h
  have:=congrArg List.length e; simp at this; omega
 | y :: x :: r,hd,hc,hp,ht,b,a,h=>by
  rcases h.cons_cases with ⟨rfl,e⟩ | h'
  ·simp at e; subst e; exact ht _ _ _ rfl
  ·refine edges_to (x :: r) (List.pairwise_cons.mp hd).2 (fun c b a pre post e=>hc c b a (y :: pre) post (by rw [e]; rfl)) (fun z hz=>hp z (by simp [hz])) ?_ b a h'
   intro b' a' r' e
   simp at e; obtain ⟨rfl,rfl⟩:=e
   have k1:=hc y x a' [] r' rfl
   have k2:=ht y x _ rfl
   have d1:=List.pairwise_cons.mp hd
   have d2:=List.pairwise_cons.mp d1.2
   exact far_turn (f:=f) (d2.1 a' (by simp)) (d1.1 x (by simp)) (hp y (by simp)) k1 k2
theorem Stk.step {f p:Pt} {st dn:List Pt} (S:Stk f st dn) (hp:∀ q ∈ dn,lin f q < lin f p):Stk f (p :: popB p st) (dn++[p]):=by
 have suf:=popB_suffix p st
 have hsub:∀ x ∈ popB p st,x ∈ dn:=fun x hx=>S.sub x (suf.subset hx)
 have hdec:(popB p st).Pairwise (fun x y=>lin f y < lin f x):=S.dec.sublist suf.sublist
 have hcvx:∀ c b a pre post,popB p st = pre++c :: b :: a :: post→0 < turn a b c:=fun c b a pre post e=>by
  obtain ⟨t,ht⟩:=suf
  exact S.cvx c b a (t++pre) post (by rw [← ht,e]; simp)
 have hadj:∀ b a,Adj (popB p st) b a→Adj st b a:=fun b a ⟨pre,post,e⟩=>by
  obtain ⟨t,ht⟩:=suf
  exact ⟨t++pre,post,by rw [← ht,e]; simp⟩
 have hedge:=edges_to (f:=f) (p:=p) (popB p st) hdec hcvx (fun x hx=>hp x (hsub x hx)) (fun b a r e=>popB_top p st b a r e)
 have tan0:Tan f p st dn:=fun t ht q hq hle=>by
  rcases S.top q hq t ht with h1 | h1
  ·subst h1; rw [turn_same]; exact Int.le_refl _
  ·omega
 have tan:=pop_tan hp st S.dec S.edge S.sub tan0
 refine ⟨List.pairwise_cons.mpr ⟨fun x hx=>hp x (hsub x hx),hdec⟩,fun c b a pre post e=>?_,fun b a h q hq=>?_,fun x hx=>?_,fun q hq x hx=>?_,fun _=>by simp,fun q hq x hx=>?_⟩
 ·cases pre with
  | nil=>simp at e; obtain ⟨rfl,e⟩:=e; exact popB_top p st b a post e
  | cons y pre=>simp at e; exact hcvx c b a pre post e.2
 ·rcases List.mem_append.mp hq with hq1 | hq
  ·rcases h.cons_cases with ⟨rfl,e⟩ | h'
   ·-- the new edge,a its tail
    rcases Int.lt_or_le (lin f q) (lin f a) with hlt | hle
    ·obtain ⟨r,hr⟩:∃ r,popB b st = a :: r:=by
      cases e':popB b st with
      | nil=>rw [e'] at e; simp at e
      | cons z r=>rw [e'] at e; simp at e; subst e; exact ⟨r,rfl⟩
     cases r with
     | nil =>
      have hl:st.getLast? = some a:=by rw [← suffix_getLast suf (by rw [hr]; simp),hr]; rfl
      have:=S.bot q hq1 a hl
      omega
     | cons z r =>
      have k1:=popB_top b st a z r hr
      have k2:=S.edge a z (hadj a z ⟨[],r,hr⟩) q hq1
      have d:lin f z < lin f a:=by rw [hr] at hdec; exact (List.pairwise_cons.mp hdec).1 z (by simp)
      have hab:lin f a < lin f b:=hp a (hsub a (by rw [hr]; simp))
      have e:=plu f a z b q
      have e2:turn a q z = turn z a q:=by rw [turn_cyc z a q]
      have e3:turn a z b = - turn z a b:=turn_swap _ _ _
      rw [e2,e3] at e
      have p1:0≤(lin f b - lin f a) * turn z a q:=Int.mul_nonneg (by omega) k2
      have p2:0≤(lin f a - lin f q) * turn z a b:=Int.mul_nonneg (by omega) (by omega)
      have p3:0≤(lin f a - lin f z) * turn a b q:=by grind
      exact nonneg_of_mul (by omega) p3
    ·exact tan a e q hq1 hle
   ·exact S.edge b a (hadj b a h') q hq1
  ·simp at hq; subst hq
   rcases h.cons_cases with ⟨rfl,e⟩ | h'
   ·rw [turn_same']; exact Int.le_refl _
   ·exact Int.le_of_lt (hedge b a h')
 ·rcases List.mem_cons.mp hx with rfl | hx
  ·simp
  ·exact List.mem_append_left _ (hsub x hx)
 ·by_cases hs:st = []
  ·subst hs
   have hdn:dn = []:=by
    cases dn with
    | nil=>rfl
    | cons z r=>exact absurd rfl (S.ne (by simp))
   subst hdn
   simp [popB] at hx
   simp at hq
   subst hq; subst hx; exact Int.le_refl _
  ·have hn:=popB_ne p st hs
   have hl:(p :: popB p st).getLast? = st.getLast?:=by
    rw [← suffix_getLast suf hn,List.getLast?_cons]
    cases e':(popB p st).getLast? with
    | none=>simp at e'; exact absurd e' hn
    | some z=>rfl
   rw [hl] at hx
   rcases List.mem_append.mp hq with hq | hq
   ·exact S.bot q hq x hx
   ·simp at hq; subst hq
    exact Int.le_of_lt (hp x (S.sub x (List.mem_of_getLast? hx)))
 ·simp at hx; subst hx
  rcases List.mem_append.mp hq with hq | hq
  ·exact .inr (hp q hq)
  ·simp at hq; exact .inl hq
theorem Stk.nil (f:Pt):Stk f [] []:=⟨.nil,fun c b a pre post e=>by simp at e,fun b a ⟨pre,post,e⟩=>by simp at e,fun x hx=>hx,fun q hq=>by simp at hq,fun h=>absurd rfl h,fun q hq=>by simp at hq⟩
theorem Stk.run {f:Pt}:∀ (ps st dn:List Pt),Stk f st dn→(dn++ps).Pairwise (fun x y=>lin f x < lin f y)→Stk f (sideRev st ps) (dn++ps)
 | [],st,dn,S,_=>by simpa [sideRev] using S
 | p :: r,st,dn,S,h=>by
  have h':(dn++[p]++r).Pairwise (fun x y=>lin f x < lin f y):=by simpa using h
  have q:=Stk.run r (p :: popB p st) (dn++[p]) (S.step fun q hq=>(List.pairwise_append.mp h).2.2 q hq p (by simp)) h'
  simpa [sideRev] using q
theorem sideRev_last {p z:Pt}:∀ (ps st:List Pt),(st ≠ []→st.getLast? = some z)→ps ≠ []∨st ≠ []→(st = []→ps.head? = some z)→(sideRev st ps).getLast? = some z
 | [],st,h,hn,_=>by
  simp [sideRev]
  rcases hn with hn | hn
  ·exact absurd rfl hn
  ·exact h hn
 | p' :: r,st,h,_,h0=>by
  unfold sideRev
  refine sideRev_last (p:=p) r _ (fun _=>?_) (.inr (by simp)) (fun e=>by simp at e)
  by_cases hs:st = []
  ·subst hs; simpa [popB] using h0 rfl
  ·have hn:=popB_ne p' st hs
   rw [List.getLast?_cons,suffix_getLast (popB_suffix p' st) hn,h hs]; rfl
theorem sideRev_head:∀ (ps st:List Pt),ps ≠ []→(sideRev st ps).head? = ps.getLast?
 | [],_,h=>absurd rfl h
 | [p],st,_=>by simp [sideRev]
 | p :: q :: r,st,_=>by
  unfold sideRev
  rw [sideRev_head (q :: r) _ (by simp)]
  simp
theorem Adj.rev {l:List Pt} {a b:Pt} (h:Adj l a b):Adj l.reverse b a:=by
 obtain ⟨pre,post,rfl⟩:=h
 exact ⟨post.reverse,pre.reverse,by simp⟩
structure Chn (f:Pt) (c S:List Pt):Prop where
 inc:c.Pairwise (fun x y=>lin f x < lin f y)
 cvx:∀ x y z pre post,c = pre++x :: y :: z :: post→0 < turn x y z
 edge:∀ a b,Adj c a b→∀ q ∈ S,0≤turn a b q
 sub:∀ x ∈ c,x ∈ S
 first:c.head? = S.head?
 last:c.getLast? = S.getLast?
theorem side_chn {f:Pt} {S:List Pt} (hS:S.Pairwise (fun x y=>lin f x < lin f y)):Chn f (sideOf S) S:=by
 have K:=Stk.run S [] [] (Stk.nil f) (by simpa using hS)
 simp at K
 unfold sideOf
 refine ⟨?_,fun x y z pre post e=>?_,fun a b h q hq=>?_,fun x hx=>K.sub x (by simpa using hx),?_,?_⟩
 ·rw [List.pairwise_reverse]; exact K.dec
 ·have e':=congrArg List.reverse e
  simp at e'
  exact K.cvx z y x post.reverse pre.reverse (by simpa using e')
 ·have h':=h.rev
  simp at h'
  exact K.edge b a h' q hq
 ·rw [List.head?_reverse]
  cases S with
  | nil=>rfl
  | cons p r=>exact sideRev_last (p:=p) (z:=p) (p :: r) [] (fun h=>absurd rfl h) (.inl (by simp)) (fun _=>rfl)
 ·rw [List.getLast?_reverse]
  cases S with
  | nil=>rfl
  | cons p r=>exact sideRev_head (p :: r) [] (by simp)
theorem neg_lin (f p:Pt):lin (-f.1,-f.2) p = - lin f p:=by unfold lin; grind
theorem side_chn_rev {f:Pt} {S:List Pt} (hS:S.Pairwise (fun x y=>lin f x < lin f y)):Chn (-f.1,-f.2) (sideOf S.reverse) S.reverse:=by
 refine side_chn ?_
 rw [List.pairwise_reverse]
 refine hS.imp fun {a b} h=>?_
 rw [neg_lin,neg_lin]; omega
theorem inc_get {f:Pt} {c:List Pt} (h:c.Pairwise (fun x y=>lin f x < lin f y)) {pre post:List Pt} {x y:Pt} (e:c = pre++x :: post) (hy:y ∈ post):lin f x < lin f y:=by
 subst e
 exact (List.pairwise_cons.mp (List.pairwise_append.mp h).2.1).1 y hy
theorem Chn.later {f:Pt} {c S:List Pt} (C:Chn f c S):∀ (post pre:List Pt) (a b q:Pt),c = pre++a :: b :: post→q ∈ post→0 < turn a b q
 | [],_,_,_,_,_,h=>by simp at h
 | z :: post,pre,a,b,q,e,hq=>by
  have k1:=C.cvx a b z pre post e
  rcases List.mem_cons.mp hq with rfl | hq
  ·exact k1
  ·have e2:c = (pre++[a])++b :: z :: post:=by rw [e]; simp
   have k2:=C.later post (pre++[a]) b z q e2 hq
   have o1:=inc_get C.inc e (y:=b) (by simp)
   have o2:=inc_get C.inc e2 (y:=z) (by simp)
   have o3:=inc_get C.inc (show c = (pre++[a,b])++z :: post by rw [e]; simp) hq
   exact far_turn o1 o2 o3 k1 k2
theorem Chn.earlier {f:Pt} {c S:List Pt} (C:Chn f c S):∀ (mid pre:List Pt) (q a b:Pt) (post:List Pt),c = pre++q :: mid++a :: b :: post→0 < turn q a b:=by
 intro mid
 induction mid with
 | nil=>intro pre q a b post e; exact C.cvx q a b pre post (by rw [e]; simp)
 | cons m mid ih =>
  intro pre q a b post e
  have k1:0 < turn m a b:=ih (pre++[q]) m a b post (by rw [e]; simp)
  have k2:0 < turn q m a:=by
   refine C.later (mid++a :: b :: post) pre q m a (by rw [e]; simp) (by simp)
  have o1:=inc_get C.inc (show c = pre++q :: (m :: mid++a :: b :: post) by rw [e]; simp) (y:=m) (by simp)
  have o2:=inc_get C.inc (show c = (pre++[q])++m :: (mid++a :: b :: post) by rw [e]; simp) (y:=a) (by simp)
  have o3:=inc_get C.inc (show c = (pre++q :: m :: mid)++a :: b :: post from e) (y:=b) (by simp)
  have:=back_turn o1 o2 o3 k2 k1
  rw [turn_cyc]; exact this
theorem Chn.mid {f:Pt} {c S:List Pt} (C:Chn f c S) {q a z:Pt} {pre post:List Pt} (e:c = q :: pre++a :: post++[z]):0 < turn q a z:=by
 cases post with
 | nil=>exact C.earlier pre [] q a z [] (by rw [e]; simp)
 | cons b post =>
  have k1:0 < turn q a b:=C.earlier pre [] q a b (post++[z]) (by rw [e]; simp)
  have k2:0 < turn a b z:=C.later (post++[z]) (q :: pre) a b z (by rw [e]; simp) (by simp)
  have o1:=inc_get C.inc (show c = []++q :: (pre++a :: b :: post++[z]) by rw [e]; simp) (y:=a) (by simp)
  have o2:=inc_get C.inc (show c = (q :: pre)++a :: (b :: post++[z]) by rw [e]; simp) (y:=b) (by simp)
  have o3:=inc_get C.inc (show c = (q :: pre++[a])++b :: (post++[z]) by rw [e]; simp) (y:=z) (by simp)
  exact far_turn o1 o2 o3 k1 k2
def wrt (l:Int×Int×Int) (p:Pt):Int:=l.1 * p.1+l.2.1 * p.2+l.2.2
def hullR (S:List Pt):List Pt:=if S.length < 2 then S else (sideOf S).dropLast++(sideOf S.reverse).dropLast
theorem ends_form {c:List Pt} {x y:Pt} (h1:c.head? = some x) (h2:c.getLast? = some y) (hn:x ≠ y):∃ m,c = x :: m++[y]:=by
 cases c with
 | nil=>simp at h1
 | cons a r =>
  simp at h1; subst h1
  cases e:r.getLast? with
  | none =>
   simp at e; subst e; simp at h2; exact absurd h2 hn
  | some z =>
   rw [List.getLast?_cons,e] at h2
   simp at h2; subst h2
   obtain ⟨l,hl⟩:=List.getLast?_eq_some_iff.mp e
   exact ⟨l,by rw [hl]; rfl⟩
structure Two (f:Pt) (S:List Pt) (a z:Pt) (Lx Ux:List Pt):Prop where
 lo:Chn f (a :: Lx++[z]) S
 up:Chn (-f.1,-f.2) (z :: Ux++[a]) S.reverse
 out:hullR S = a :: Lx++z :: Ux
 fst:S.head? = some a
 lst:S.getLast? = some z
 lt:lin f a < lin f z
 inc:S.Pairwise (fun x y=>lin f x < lin f y)
theorem two_of {f:Pt} {S:List Pt} (hS:S.Pairwise (fun x y=>lin f x < lin f y)) (h2:2≤S.length):∃ a z Lx Ux,Two f S a z Lx Ux:=by
 have C1:=side_chn hS
 have C2:=side_chn_rev hS
 match S,h2 with
 | a :: b :: r,_ =>
  obtain ⟨z,hz⟩:∃ z,(a :: b :: r).getLast? = some z:=⟨_,List.getLast?_eq_some_getLast (by simp)⟩
  have hzm:z ∈ b :: r:=by
   rw [List.getLast?_cons_cons] at hz
   exact List.mem_of_getLast? hz
  have hlt:lin f a < lin f z:=(List.pairwise_cons.mp hS).1 z hzm
  have hne:a ≠ z:=fun e=>by rw [e] at hlt; omega
  obtain ⟨Lx,hL⟩:=ends_form (C1.first.trans (by simp:(a :: b :: r).head? = some a)) (C1.last.trans hz) hne
  have f2:(a :: b :: r).reverse.head? = some z:=by rw [List.head?_reverse]; exact hz
  have l2:(a :: b :: r).reverse.getLast? = some a:=by rw [List.getLast?_reverse]; rfl
  obtain ⟨Ux,hU⟩:=ends_form (C2.first.trans f2) (C2.last.trans l2) hne.symm
  refine ⟨a,z,Lx,Ux,⟨by rw [← hL]; exact C1,by rw [← hU]; exact C2,?_,rfl,hz,hlt,hS⟩⟩
  unfold hullR
  rw [if_neg (by simp),hL,hU,List.dropLast_concat,List.dropLast_concat]
section
variable {f:Pt} {S:List Pt} {a z:Pt} {Lx Ux:List Pt}
theorem Two.sub (T:Two f S a z Lx Ux):∀ x ∈ hullR S,x ∈ S:=fun x hx=>by
 rw [T.out] at hx
 rcases List.mem_append.mp hx with h | h
 ·exact T.lo.sub x (by rcases List.mem_cons.mp h with h | h <;> simp [h])
 ·have:=T.up.sub x (by rcases List.mem_cons.mp h with h | h <;> simp [h])
  simpa using this
theorem Two.low (T:Two f S a z Lx Ux):∀ q ∈ S,q ≠ a→lin f a < lin f q:=fun q hq hn=>by
 have h1:=T.fst
 cases S with
 | nil=>simp at h1
 | cons x r =>
  simp at h1; subst h1
  rcases List.mem_cons.mp hq with h | h
  ·exact absurd h hn
  ·exact (List.pairwise_cons.mp T.inc).1 q h
theorem Two.high (T:Two f S a z Lx Ux):∀ q ∈ S,q ≠ z→lin f q < lin f z:=fun q hq hn=>by
 obtain ⟨l,hl⟩:=List.getLast?_eq_some_iff.mp T.lst
 have hi:=T.inc
 rw [hl] at hi hq
 rcases List.mem_append.mp hq with h | h
 ·exact (List.pairwise_append.mp hi).2.2 q h z (by simp)
 ·simp at h; exact absurd h hn
def Rnd (R:List Pt) (x y:Pt):Prop:=Adj R x y∨(R.getLast? = some x∧R.head? = some y)
theorem adj_append {l m:List Pt} {z x y:Pt} (h:Adj (l++z :: m) x y):Adj (l++[z]) x y∨Adj (z :: m) x y:=by
 induction l with
 | nil=>exact .inr h
 | cons a r ih =>
  rcases h.cons_cases with ⟨rfl,e⟩ | h'
  ·left
   cases r with
   | nil=>simp at e; subst e; exact ⟨[],[],rfl⟩
   | cons b r=>simp at e; subst e; exact ⟨[],r++[z],rfl⟩
  ·rcases ih h' with h' | h'
   ·exact .inl h'.cons
   ·exact .inr h'
theorem Adj.snoc {l:List Pt} {x y w:Pt} (h:Adj l x y):Adj (l++[w]) x y:=by
 obtain ⟨pre,post,rfl⟩:=h; exact ⟨pre,post++[w],by simp⟩
theorem adj_last {l:List Pt} {x y:Pt} (h:l.getLast? = some x):Adj (l++[y]) x y:=by
 obtain ⟨m,rfl⟩:=List.getLast?_eq_some_iff.mp h
 exact ⟨m,[],by simp⟩
theorem Two.rnd (T:Two f S a z Lx Ux) {x y:Pt} (h:Rnd (hullR S) x y):Adj (a :: Lx++[z]) x y∨Adj (z :: Ux++[a]) x y:=by
 rw [T.out] at h
 rcases h with h | ⟨h1,h2⟩
 ·rcases adj_append h with h | h
  ·exact .inl h
  ·exact .inr h.snoc
 ·right
  simp at h2; subst h2
  rw [List.getLast?_append] at h1
  have h1':(z :: Ux).getLast? = some x:=by
   cases e:(z :: Ux).getLast? with
   | none=>simp at e
   | some w=>rw [e] at h1; simpa using h1
  exact adj_last h1'
theorem Two.left (T:Two f S a z Lx Ux) {x y:Pt} (h:Rnd (hullR S) x y):∀ q ∈ S,0≤turn x y q:=fun q hq=>by
 rcases T.rnd h with h | h
 ·exact T.lo.edge x y h q hq
 ·exact T.up.edge x y h q (by simpa using hq)
theorem Two.fan (T:Two f S a z Lx Ux) {x y:Pt} (h:Adj (Lx++z :: Ux) x y):0 < turn a x y:=by
 rcases adj_append h with ⟨pre,post,e⟩ | ⟨pre,post,e⟩
 ·exact T.lo.earlier pre [] a x y post (by rw [List.cons_append,e]; simp)
 ·have:=T.up.later (post++[a]) pre x y a (by rw [e]; simp) (by simp)
  rw [turn_cyc]; exact this
end
theorem fan_find {o p:Pt}:∀ (l:List Pt) (b:Pt),(∀ x y,Adj (b :: l) x y→0 < turn o x y∧0≤turn x y p)→0≤turn o b p→l ≠ []→(∀ w,(b :: l).getLast? = some w→turn o w p≤0) →
  ∃ x y,Adj (b :: l) x y∧0≤turn o x p∧0≤turn x y p∧turn o y p≤0∧0 < turn o x y
 | [],_,_,_,h,_=>absurd rfl h
 | c :: l,b,he,hb,_,hw=>by
  have e:=he b c ⟨[],l,rfl⟩
  rcases Int.lt_or_le 0 (turn o c p) with h | h
  ·cases l with
   | nil =>
    have:=hw c (by simp)
    omega
   | cons d l =>
    obtain ⟨x,y,h1,h2⟩:=fan_find (d :: l) c (fun x y h=>he x y h.cons) (Int.le_of_lt h) (by simp) (fun w hw'=>hw w (by rw [List.getLast?_cons_cons]; exact hw'))
    exact ⟨x,y,h1.cons,h2⟩
  ·exact ⟨b,c,⟨[],l,rfl⟩,hb,e.2,h,e.1⟩
end Geo
namespace Geo
def InTwo (a b p:Pt):Prop:=turn a b p = 0∧min a.1 b.1≤p.1∧p.1≤max a.1 b.1∧min a.2 b.2≤p.2∧p.2≤max a.2 b.2
def InThree (a b c p:Pt):Prop:=turn a b c ≠ 0∧((0≤turn a b p∧0≤turn b c p∧0≤turn c a p)∨(turn a b p≤0∧turn b c p≤0∧turn c a p≤0))
def Within (ps:List Pt) (p:Pt):Prop:=∃ (a:Nat) (x:Pt),ps[a]? = some x∧(x = p∨∃ (b:Nat) (y:Pt),b < a∧ps[b]? = some y∧(InTwo x y p∨∃ (c:Nat) (w:Pt),c < b∧ps[c]? = some w∧InThree x y w p))
theorem InTwo.symm {a b p:Pt} (h:InTwo a b p):InTwo b a p:=by
 obtain ⟨h1,h2,h3,h4,h5⟩:=h
 exact ⟨by rw [turn_swap]; omega,by omega,by omega,by omega,by omega⟩
theorem InTwo.same {a p:Pt} (h:InTwo a a p):a = p:=by
 obtain ⟨h1,h2,h3,h4,h5⟩:=h
 exact Prod.ext (by omega) (by omega)
theorem InThree.swap {a b c p:Pt} (h:InThree a b c p):InThree b a c p:=by
 obtain ⟨h1,h2⟩:=h
 have e1:=turn_swap a b c
 have e2:=turn_swap a b p
 have e3:=turn_swap b c p
 have e4:=turn_swap c a p
 exact ⟨by omega,by omega⟩
theorem two_pos {l:Int×Int×Int} {a b p:Pt} (h:InTwo a b p) (ha:0 < wrt l a) (hb:0 < wrt l b):0 < wrt l p:=by
 obtain ⟨h1,h2,h3,h4,h5⟩:=h
 have key1:(b.1 - a.1) * wrt l p = (b.1 - p.1) * wrt l a+(p.1 - a.1) * wrt l b:=by
  have e:(b.1 - a.1) * wrt l p = (b.1 - p.1) * wrt l a+(p.1 - a.1) * wrt l b+l.2.1 * turn a b p:=by unfold wrt turn; grind
  rw [e,h1]; simp
 have key2:(b.2 - a.2) * wrt l p = (b.2 - p.2) * wrt l a+(p.2 - a.2) * wrt l b:=by
  have e:(b.2 - a.2) * wrt l p = (b.2 - p.2) * wrt l a+(p.2 - a.2) * wrt l b - l.1 * turn a b p:=by unfold wrt turn; grind
  rw [e,h1]; simp
 have mix:∀ {u v x y:Int},0≤u→0≤v→0 < u+v→0 < x→0 < y→0 < u * x+v * y:=fun {u v x y} hu hv huv hx hy=>by
  have m1:0≤u * x:=Int.mul_nonneg hu (by omega)
  have m2:0≤v * y:=Int.mul_nonneg hv (by omega)
  rcases Int.lt_or_le 0 u with h | h
  ·have:=Int.mul_pos h hx; omega
  ·have:=Int.mul_pos (show 0 < v by omega) hy; omega
 rcases Int.lt_trichotomy a.1 b.1 with c | c | c
 ·have:=mix (u:=b.1 - p.1) (v:=p.1 - a.1) (by omega) (by omega) (by omega) ha hb
  rw [← key1] at this
  exact pos_of_mul (by omega) this
 ·rcases Int.lt_trichotomy a.2 b.2 with d | d | d
  ·have:=mix (u:=b.2 - p.2) (v:=p.2 - a.2) (by omega) (by omega) (by omega) ha hb
   rw [← key2] at this
   exact pos_of_mul (by omega) this
  ·have e:a = p:=Prod.ext (by omega) (by omega)
   rw [← e]; exact ha
  ·have:=mix (u:=p.2 - b.2) (v:=a.2 - p.2) (by omega) (by omega) (by omega) ha hb
   have e:(a.2 - b.2) * wrt l p = (p.2 - b.2) * wrt l a+(a.2 - p.2) * wrt l b:=by grind
   rw [← e] at this
   exact pos_of_mul (by omega) this
 ·have:=mix (u:=p.1 - b.1) (v:=a.1 - p.1) (by omega) (by omega) (by omega) ha hb
  have e:(a.1 - b.1) * wrt l p = (p.1 - b.1) * wrt l a+(a.1 - p.1) * wrt l b:=by grind
  rw [← e] at this
  exact pos_of_mul (by omega) this
theorem three_eq (l:Int×Int×Int) (a b c p:Pt):turn a b c * wrt l p = turn b c p * wrt l a+turn c a p * wrt l b+turn a b p * wrt l c:=by unfold wrt turn; grind
theorem three_sum (a b c p:Pt):turn a b c = turn b c p+turn c a p+turn a b p:=by unfold turn; grind
theorem three_pos0 {l:Int×Int×Int} {a b c p:Pt} (h:0 < turn a b c) (h1:0≤turn a b p) (h2:0≤turn b c p) (h3:0≤turn c a p) (ha:0 < wrt l a) (hb:0 < wrt l b) (hc:0 < wrt l c):0 < wrt l p:=by
 have e:=three_eq l a b c p
 have s:=three_sum a b c p
 have m1:=Int.mul_nonneg h2 (Int.le_of_lt ha)
 have m2:=Int.mul_nonneg h3 (Int.le_of_lt hb)
 have m3:=Int.mul_nonneg h1 (Int.le_of_lt hc)
 have:0 < turn b c p * wrt l a+turn c a p * wrt l b+turn a b p * wrt l c:=by
  rcases Int.lt_or_le 0 (turn b c p) with k | k
  ·have:=Int.mul_pos k ha; omega
  ·rcases Int.lt_or_le 0 (turn c a p) with k' | k'
   ·have:=Int.mul_pos k' hb; omega
   ·have:=Int.mul_pos (show 0 < turn a b p by omega) hc; omega
 rw [← e] at this
 exact pos_of_mul h this
theorem three_pos {l:Int×Int×Int} {a b c p:Pt} (h:InThree a b c p) (ha:0 < wrt l a) (hb:0 < wrt l b) (hc:0 < wrt l c):0 < wrt l p:=by
 have go:∀ {a b c:Pt},InThree a b c p→0 < turn a b c→0 < wrt l a→0 < wrt l b→0 < wrt l c→0 < wrt l p:=fun {a b c} h ht ha hb hc=>by
  rcases h.2 with k | k
  ·exact three_pos0 ht k.1 k.2.1 k.2.2 ha hb hc
  ·have s:=three_sum a b c p
   omega
 rcases Int.lt_or_le 0 (turn a b c) with k | k
 ·exact go h k ha hb hc
 ·have:=h.1
  have e:=turn_swap a b c
  exact go h.swap (by omega) hb ha hc
theorem two_of_line {f a z p:Pt} (ht:turn a z p = 0) (h1:lin f a≤lin f p) (h2:lin f p≤lin f z) (h3:lin f a < lin f z):InTwo a z p:=by
 have k1:(lin f z - lin f a) * (p.1 - a.1) = (lin f p - lin f a) * (z.1 - a.1):=by
  have e:(lin f z - lin f a) * (p.1 - a.1) = (lin f p - lin f a) * (z.1 - a.1) - f.2 * turn a z p:=by unfold lin turn; grind
  rw [e,ht]; simp
 have k2:(lin f z - lin f a) * (p.2 - a.2) = (lin f p - lin f a) * (z.2 - a.2):=by
  have e:(lin f z - lin f a) * (p.2 - a.2) = (lin f p - lin f a) * (z.2 - a.2)+f.1 * turn a z p:=by unfold lin turn; grind
  rw [e,ht]; simp
 have btw:∀ {N M x y w:Int},0 < N→0≤M→M≤N→N * (y - x) = M * (w - x)→min x w≤y∧y≤max x w:=fun {N M x y w} hN hM hMN e=>by
  have e2:N * (w - y) = (N - M) * (w - x):=by grind
  rcases Int.lt_or_le w x with c | c
  ·have q1:0≤M * (x - w):=Int.mul_nonneg hM (by omega)
   have q2:0≤(N - M) * (x - w):=Int.mul_nonneg (by omega) (by omega)
   have q3:0≤N * (x - y):=by grind
   have q4:0≤N * (y - w):=by grind
   have:=nonneg_of_mul hN q3
   have:=nonneg_of_mul hN q4
   omega
  ·have q1:0≤M * (w - x):=Int.mul_nonneg hM (by omega)
   have q2:0≤(N - M) * (w - x):=Int.mul_nonneg (by omega) (by omega)
   have:=nonneg_of_mul hN (show 0≤N * (y - x) by omega)
   have:=nonneg_of_mul hN (show 0≤N * (w - y) by omega)
   omega
 have b1:=btw (by omega) (by omega) (by omega) k1
 have b2:=btw (by omega) (by omega) (by omega) k2
 exact ⟨ht,b1.1,b1.2,b2.1,b2.2⟩
theorem Two.holds {f:Pt} {S:List Pt} {a z:Pt} {Lx Ux:List Pt} (T:Two f S a z Lx Ux) {p:Pt} (h:∀ x y,Rnd (hullR S) x y→0≤turn x y p) (hl:Lx++z :: Ux = [z]→lin f a≤lin f p∧lin f p≤lin f z) :
  (hullR S = [a,z]∧InTwo a z p)∨∃ x y,Adj (Lx++z :: Ux) x y∧0≤turn a x p∧0≤turn x y p∧turn a y p≤0∧0 < turn a x y:=by
 have out:=T.out
 rw [List.cons_append] at out
 cases e:Lx++z :: Ux with
 | nil=>simp at e
 | cons b l =>
  rw [e] at out
  have hlast:∀ w,(b :: l).getLast? = some w→turn a w p≤0:=fun w hw=>by
   have:=h w a (.inr ⟨by rw [out,List.getLast?_cons_cons]; exact hw,by rw [out]; rfl⟩)
   rw [turn_swap] at this; omega
  have hfirst:0≤turn a b p:=h a b (.inl ⟨[],l,by rw [out]; rfl⟩)
  cases l with
  | nil =>
   left
   have hz:b = z∧Lx = []∧Ux = []:=by
    cases Lx with
    | nil=>simp at e; exact ⟨e.1.symm,rfl,e.2⟩
    | cons c r=>simp at e
   obtain ⟨rfl,rfl,rfl⟩:=hz
   refine ⟨out,two_of_line (f:=f) ?_ (hl rfl).1 (hl rfl).2 T.lt⟩
   have:=hlast b rfl
   omega
  | cons c l =>
   right
   refine fan_find (c :: l) b (fun x y hxy=>⟨?_,h x y (.inl (by rw [out]; exact hxy.cons))⟩) hfirst (by simp) hlast
   exact T.fan (by rw [e]; exact hxy)
end Geo
namespace Geo
def ltP (p q:Pt):Bool:=decide (p.1 < q.1) || (decide (p.1 = q.1) && decide (p.2 < q.2))
def leP (p q:Pt):Bool:=!ltP q p
theorem ltP_iff {p q:Pt}:ltP p q = true↔p.1 < q.1∨(p.1 = q.1∧p.2 < q.2):=by unfold ltP; simp
theorem leP_iff {p q:Pt}:leP p q = true↔p.1 < q.1∨(p.1 = q.1∧p.2≤q.2):=by
 unfold leP
 rw [Bool.not_eq_true',Bool.eq_false_iff,Ne,ltP_iff]; omega
theorem leP_antisymm {p q:Pt} (h1:leP p q = true) (h2:leP q p = true):p = q:=by
 rw [leP_iff] at h1 h2
 exact Prod.ext (by omega) (by omega)
def sortP (xs:List Pt):List Pt:=xs.mergeSort leP
theorem sortP_perm (xs:List Pt):(sortP xs).Perm xs:=List.mergeSort_perm _ _
theorem sortP_pw (xs:List Pt):(sortP xs).Pairwise (fun a b=>leP a b = true) :=
 List.pairwise_mergeSort (fun a b c h1 h2=>by rw [leP_iff] at *; omega) (fun a b=>by rw [Bool.or_eq_true,leP_iff,leP_iff]; omega) xs
theorem sortP_unique {xs ys:List Pt} (hp:ys.Perm xs) (hs:ys.Pairwise (fun a b=>leP a b = true)):ys = sortP xs :=
 List.Perm.eq_of_pairwise (le:=fun a b=>leP a b = true) (fun _ _ _ _ h1 h2=>leP_antisymm h1 h2) hs (sortP_pw xs) (hp.trans (sortP_perm xs).symm)
theorem sortP_length (xs:List Pt):(sortP xs).length = xs.length:=(sortP_perm xs).length_eq
def dedP:List Pt→List Pt
 | []=>[]
 | x :: r=>x :: (dedP r).filter (fun y=>decide (y ≠ x))
theorem mem_dedP {x:Pt}:∀ {xs:List Pt},x ∈ dedP xs↔x ∈ xs
 | []=>by simp [dedP]
 | y :: r=>by
  unfold dedP
  rw [List.mem_cons,List.mem_cons,List.mem_filter,mem_dedP (xs:=r)]
  by_cases h:x = y <;> simp [h]
theorem dedP_nodup:∀ xs:List Pt,(dedP xs).Nodup
 | []=>by simp [dedP]
 | y :: r=>by
  unfold dedP
  rw [List.nodup_cons]
  exact ⟨fun h=>by have:=(List.mem_filter.mp h).2; simp at this,(dedP_nodup r).filter _⟩
theorem dedP_le:∀ xs:List Pt,(dedP xs).length≤xs.length
 | []=>by simp [dedP]
 | y :: r=>by
  unfold dedP
  have:=dedP_le r
  have:=List.length_filter_le (fun z=>decide (z ≠ y)) (dedP r)
  simp only [List.length_cons]; omega
def uniqP (xs:List Pt):List Pt:=sortP (dedP xs)
theorem mem_uniqP {x:Pt} {xs:List Pt}:x ∈ uniqP xs↔x ∈ xs:=(sortP_perm _).mem_iff.trans mem_dedP
theorem uniqP_nodup (xs:List Pt):(uniqP xs).Nodup:=(sortP_perm _).nodup_iff.mpr (dedP_nodup xs)
theorem uniqP_le (xs:List Pt):(uniqP xs).length≤xs.length:=by
 unfold uniqP; rw [sortP_length]; exact dedP_le xs
theorem uniqP_unique {xs ys:List Pt} (hn:ys.Nodup) (hm:∀ x,x ∈ ys↔x ∈ xs) (hs:ys.Pairwise (fun a b=>leP a b = true)):ys = uniqP xs :=
 sortP_unique ((List.perm_ext_iff_of_nodup hn (dedP_nodup xs)).mpr fun x=>(hm x).trans mem_dedP.symm) hs
theorem uniqP_lt (xs:List Pt):(uniqP xs).Pairwise (fun a b=>ltP a b = true):=by
 have h1:=sortP_pw (dedP xs)
 have h2:(uniqP xs).Pairwise (· ≠ ·):=uniqP_nodup xs
 refine (h1.and h2).imp fun {a b} ⟨h,n⟩=>?_
 rw [leP_iff] at h; rw [ltP_iff]
 rcases h with h | ⟨h,k⟩
 ·exact .inl h
 ·refine .inr ⟨h,?_⟩
  rcases Int.lt_or_eq_of_le k with k | k
  ·exact k
  ·exact absurd (Prod.ext h k) n
def Bd (p:Pt):Prop:=-1000≤p.1∧p.1≤1000∧-1000≤p.2∧p.2≤1000
def Bd2 (p:Pt):Prop:=-2000≤p.1∧p.1≤2000∧-2000≤p.2∧p.2≤2000
def Bw (p:Pt):Prop:=-4611686018427387904≤p.1∧p.1≤4611686018427387904∧-4611686018427387904≤p.2∧p.2≤4611686018427387904
theorem Bd.two {p:Pt} (h:Bd p):Bd2 p:=by unfold Bd at h; unfold Bd2; omega
theorem Bd2.w {p:Pt} (h:Bd2 p):Bw p:=by unfold Bd2 at h; unfold Bw; omega
theorem Bd.w {p:Pt} (h:Bd p):Bw p:=h.two.w
abbrev F0:Pt:=(4001,1)
theorem lt_lin {p q:Pt} (hp:Bd2 p) (hq:Bd2 q):ltP p q = true↔lin F0 p < lin F0 q:=by
 obtain ⟨a1,a2,a3,a4⟩:=hp
 obtain ⟨b1,b2,b3,b4⟩:=hq
 rw [ltP_iff]; show _↔4001 * p.1+1 * p.2 < 4001 * q.1+1 * q.2
 omega
theorem uniqP_inc {xs:List Pt} (h:∀ p ∈ xs,Bd2 p):(uniqP xs).Pairwise (fun a b=>lin F0 a < lin F0 b):=by
 have h1:=uniqP_lt xs
 have h2:∀ p ∈ uniqP xs,Bd2 p:=fun p hp=>h p (mem_uniqP.mp hp)
 exact List.Pairwise.imp_of_mem (fun {a b} ha hb k=>(lt_lin (h2 a ha) (h2 b hb)).mp k) h1
def cornersM (xs:List Pt):List Pt:=hullR (uniqP xs)
def others (ps:List Pt) (p:Pt):List Pt:=ps.filter (fun q=>decide (q ≠ p))
structure RightP (R ps:List Pt):Prop where
 nd:R.Nodup
 mem:∀ x,x ∈ R↔x ∈ ps∧¬ Within (others ps x) x
 fst:R.take 1 = (sortP R).take 1
 left:∀ x y,Rnd R x y→∀ q ∈ ps,0≤turn x y q
theorem cornersM_sub {ps:List Pt} (h:∀ p ∈ ps,Bd2 p):∀ x ∈ cornersM ps,x ∈ ps:=fun x hx=>by
 unfold cornersM at hx
 by_cases h2:2≤(uniqP ps).length
 ·obtain ⟨a,z,Lx,Ux,T⟩:=two_of (uniqP_inc h) h2
  exact mem_uniqP.mp (T.sub x hx)
 ·unfold hullR at hx; rw [if_pos (by omega)] at hx; exact mem_uniqP.mp hx
end Geo
set_option maxRecDepth 100000
namespace Geo
abbrev Ln:=Int×Int×Int
def InHull (ps:List Pt) (p:Pt):Prop:=∀ l:Ln,(∀ q ∈ ps,0≤wrt l q)→0≤wrt l p
def Out (ps:List Pt) (p:Pt) (l:Ln):Prop:=wrt l p < 0∧∀ q ∈ ps,0≤wrt l q
theorem Out.not {ps:List Pt} {p:Pt} {l:Ln} (h:Out ps p l):¬ InHull ps p:=fun k=>by have:=k l h.2; have:=h.1; omega
theorem wrt_one (l:Ln) (p:Pt):wrt (l.1,l.2.1,l.2.2+1) p = wrt l p+1:=by unfold wrt; dsimp only; omega
theorem two_nn {l:Ln} {a b p:Pt} (h:InTwo a b p) (ha:0≤wrt l a) (hb:0≤wrt l b):0≤wrt l p:=by
 have:=two_pos (l:=(l.1,l.2.1,l.2.2+1)) h (by rw [wrt_one]; omega) (by rw [wrt_one]; omega)
 rw [wrt_one] at this; omega
theorem three_nn {l:Ln} {a b c p:Pt} (h:InThree a b c p) (ha:0≤wrt l a) (hb:0≤wrt l b) (hc:0≤wrt l c):0≤wrt l p:=by
 have:=three_pos (l:=(l.1,l.2.1,l.2.2+1)) h (by rw [wrt_one]; omega) (by rw [wrt_one]; omega) (by rw [wrt_one]; omega)
 rw [wrt_one] at this; omega
theorem InHull.mem {ps:List Pt} {p:Pt} (h:p ∈ ps):InHull ps p:=fun _ k=>k p h
theorem InHull.sub {ps qs:List Pt} {p:Pt} (h:InHull ps p) (s:∀ q ∈ ps,InHull qs q):InHull qs p:=fun l k=>h l fun q hq=>s q hq l k
theorem InHull.congr {ps qs:List Pt} {p:Pt} (h:∀ q,q ∈ ps↔q ∈ qs):InHull ps p↔InHull qs p :=
 ⟨fun k=>k.sub fun q hq=>.mem ((h q).mp hq),fun k=>k.sub fun q hq=>.mem ((h q).mpr hq)⟩
theorem corners_hull {ps:List Pt} (h:∀ p ∈ ps,Bd2 p):∀ q ∈ ps,InHull (cornersM ps) q:=fun q hq=>by
 by_cases hc:q ∈ cornersM ps
 ·exact .mem hc
 ·have hS:=uniqP_inc h
  have hqu:=mem_uniqP.mpr hq
  by_cases h2:2≤(uniqP ps).length
  ·obtain ⟨a,z,Lx,Ux,T⟩:=two_of hS h2
   have ha:a ∈ hullR (uniqP ps):=by rw [T.out]; simp
   have hz:z ∈ hullR (uniqP ps):=by rw [T.out]; simp
   have hpa:q ≠ a:=fun e=>hc (by rw [e]; exact ha)
   have hpz:q ≠ z:=fun e=>hc (by rw [e]; exact hz)
   rcases T.holds (fun x y hxy=>T.left hxy q hqu) (fun _=>⟨Int.le_of_lt (T.low q hqu hpa),Int.le_of_lt (T.high q hqu hpz)⟩) with ⟨_,k⟩ | ⟨x,y,hxy,k1,k2,k3,k4⟩
   ·exact fun l hl=>two_nn k (hl a ha) (hl z hz)
   ·have hx:x ∈ hullR (uniqP ps):=by rw [T.out,List.cons_append]; exact List.mem_cons_of_mem _ hxy.mem.1
    have hy:y ∈ hullR (uniqP ps):=by rw [T.out,List.cons_append]; exact List.mem_cons_of_mem _ hxy.mem.2
    refine fun l hl=>three_nn (a:=a) (b:=x) (c:=y) ⟨by omega,.inl ⟨k1,k2,?_⟩⟩ (hl a ha) (hl x hx) (hl y hy)
    rw [turn_swap]; omega
  ·exfalso; apply hc
   unfold cornersM hullR; rw [if_pos (by omega)]; exact hqu
theorem Out.corners {ps:List Pt} (h:∀ p ∈ ps,Bd2 p) {p:Pt} {l:Ln} (k:Out (cornersM ps) p l):Out ps p l:=⟨k.1,fun q hq=>corners_hull h q hq l k.2⟩
def along (a b:Pt):Ln:=(a.2 - b.2,b.1 - a.1,a.1 * b.2 - a.2 * b.1)
def across (a b:Pt):Ln:=(b.1 - a.1,b.2 - a.2,-(b.1 - a.1) * b.1 - (b.2 - a.2) * b.2)
theorem wrt_along (a b p:Pt):wrt (along a b) p = turn a b p:=by unfold wrt along turn; dsimp only; grind
def reachM (a b p:Pt):Int:=(b.1 - a.1) * (p.1 - a.1)+(b.2 - a.2) * (p.2 - a.2)
theorem wrt_across (a b p:Pt):wrt (across a b) p = (b.1 - a.1) * (p.1 - b.1)+(b.2 - a.2) * (p.2 - b.2):=by unfold wrt across; dsimp only; grind
def rot1 (R:List Pt):List Pt:=R.drop 1++R.take 1
def edgesM (R:List Pt):List Ln:=(R.zip (rot1 R)).map fun e=>along e.1 e.2
def frontsM (R:List Pt) (p:Pt):List Ln:=R.map fun e=>across p e
def NoShut (R:List Pt) (p:Pt):Prop:=R ≠ []∧∀ l ∈ edgesM R++frontsM R p,¬ Out R p l
theorem sq_nn (x:Int):0≤x * x:=by
 rcases Int.lt_or_le x 0 with k | k
 ·exact Int.le_of_lt (Int.mul_pos_of_neg_of_neg k k)
 ·exact Int.mul_nonneg k k
theorem sq_pos {x y:Int} (h:x ≠ 0∨y ≠ 0):0 < x * x+y * y:=by
 have hx:=sq_nn x
 have hy:=sq_nn y
 rcases h with h | h
 ·rcases Int.lt_or_lt_of_ne h with k | k
  ·have:=Int.mul_pos_of_neg_of_neg k k; omega
  ·have:=Int.mul_pos k k; omega
 ·rcases Int.lt_or_lt_of_ne h with k | k
  ·have:=Int.mul_pos_of_neg_of_neg k k; omega
  ·have:=Int.mul_pos k k; omega
theorem across_self {p e:Pt} (h:p ≠ e):wrt (across p e) p < 0:=by
 have:(e.1 - p.1) ≠ 0∨(e.2 - p.2) ≠ 0:=by
  rcases Int.lt_trichotomy e.1 p.1 with k | k | k
  ·left; omega
  ·right; intro k2; exact h (Prod.ext (by omega) (by omega))
  ·left; omega
 have:=sq_pos this
 have e2:wrt (across p e) p = -((e.1 - p.1) * (e.1 - p.1)+(e.2 - p.2) * (e.2 - p.2)):=by rw [wrt_across]; grind
 omega
theorem rnd_edge {R:List Pt} {x y:Pt} (h:Rnd R x y):along x y ∈ edgesM R:=by
 unfold edgesM
 refine List.mem_map.mpr ⟨(x,y),?_,rfl⟩
 rcases h with ⟨pre,post,e⟩ | ⟨e1,e2⟩
 ·subst e
  refine List.mem_iff_getElem?.mpr ⟨pre.length,?_⟩
  rw [List.getElem?_zip_eq_some]
  refine ⟨by simp,?_⟩
  unfold rot1
  cases pre with
  | nil=>simp
  | cons c r=>simp
 ·cases R with
  | nil=>simp at e2
  | cons c r =>
   simp at e2; subst e2
   refine List.mem_iff_getElem?.mpr ⟨r.length,?_⟩
   rw [List.getElem?_zip_eq_some]
   refine ⟨?_,?_⟩
   ·rw [List.getLast?_eq_getElem?] at e1; simpa using e1
   ·unfold rot1; simp
theorem NoShut.left {S:List Pt} {p:Pt} {f:Pt} {a z:Pt} {Lx Ux:List Pt} (T:Two f S a z Lx Ux) (h:NoShut (hullR S) p):∀ x y,Rnd (hullR S) x y→0≤turn x y p:=fun x y hxy=>by
 rcases Int.lt_or_le (turn x y p) 0 with k | k
 ·refine absurd ⟨by rw [wrt_along]; exact k,fun q hq=>?_⟩ (h.2 (along x y) (List.mem_append_left _ (rnd_edge hxy)))
  rw [wrt_along]; exact T.left hxy q (T.sub q hq)
 ·exact k
theorem NoShut.front {R:List Pt} {p:Pt} (h:NoShut R p) {e:Pt} (he:e ∈ R) (hp:p ≠ e):∃ q ∈ R,wrt (across p e) q < 0:=by
 refine Classical.byContradiction fun c=>h.2 (across p e) (List.mem_append_right _ (List.mem_map.mpr ⟨e,he,rfl⟩)) ⟨across_self hp,fun q hq=>?_⟩
 rcases Int.lt_or_le (wrt (across p e) q) 0 with k | k
 ·exact absurd ⟨q,hq,k⟩ c
 ·exact k
structure ShOk (R:List Pt) (p:Pt) (sh:List (Pt×Int)):Prop where
 len:sh.length≤3
 nd:(sh.map (·.1)).Nodup
 mem:∀ e ∈ sh,e.1 ∈ R
 nn:∀ e ∈ sh,0≤e.2
 pos:0 < (sh.map (·.2)).sum
 lt:(sh.map (·.2)).sum≤64000000
 x:(sh.map fun e=>e.2 * e.1.1).sum = (sh.map (·.2)).sum * p.1
 y:(sh.map fun e=>e.2 * e.1.2).sum = (sh.map (·.2)).sum * p.2
theorem one_ok {a p:Pt} (h:NoShut [a] p):ShOk [a] p [(a,1)]:=by
 have e:p = a:=by
  refine Classical.byContradiction fun c=>?_
  obtain ⟨q,hq,k⟩:=h.front (e:=a) (by simp) c
  simp at hq; subst hq
  rw [wrt_across] at k; simp at k
 subst e
 exact ⟨by simp,by simp,by simp,by simp,by simp,by simp,by simp,by simp⟩
theorem mul_bound {x y B C:Int} (hx:-B≤x) (hx':x≤B) (hy:-C≤y) (hy':y≤C):x * y≤B * C∧-(B * C)≤x * y:=by
 have h1:0≤(B - x) * (C+y):=Int.mul_nonneg (by omega) (by omega)
 have h2:0≤(B+x) * (C - y):=Int.mul_nonneg (by omega) (by omega)
 have h3:0≤(B - x) * (C - y):=Int.mul_nonneg (by omega) (by omega)
 have h4:0≤(B+x) * (C+y):=Int.mul_nonneg (by omega) (by omega)
 constructor <;> grind
theorem turn_le {a b c:Pt} (ha:Bd2 a) (hb:Bd2 b) (hc:Bd2 c):turn a b c≤32000000:=by
 obtain ⟨a1,a2,a3,a4⟩:=ha
 obtain ⟨b1,b2,b3,b4⟩:=hb
 obtain ⟨c1,c2,c3,c4⟩:=hc
 have h1:=mul_bound (x:=b.1 - a.1) (y:=c.2 - a.2) (B:=4000) (C:=4000) (by omega) (by omega) (by omega) (by omega)
 have h2:=mul_bound (x:=b.2 - a.2) (y:=c.1 - a.1) (B:=4000) (C:=4000) (by omega) (by omega) (by omega) (by omega)
 unfold turn; omega
theorem reach_le {a b c:Pt} (ha:Bd2 a) (hb:Bd2 b) (hc:Bd2 c):reachM a b c≤32000000:=by
 obtain ⟨a1,a2,a3,a4⟩:=ha
 obtain ⟨b1,b2,b3,b4⟩:=hb
 obtain ⟨c1,c2,c3,c4⟩:=hc
 have h1:=mul_bound (x:=b.1 - a.1) (y:=c.1 - a.1) (B:=4000) (C:=4000) (by omega) (by omega) (by omega) (by omega)
 have h2:=mul_bound (x:=b.2 - a.2) (y:=c.2 - a.2) (B:=4000) (C:=4000) (by omega) (by omega) (by omega) (by omega)
 unfold reachM; omega
theorem two_ok {a z p:Pt} {f:Pt} {S:List Pt} (T:Two f S a z [] []) (ba:Bd2 a) (bz:Bd2 z) (h:NoShut [a,z] p) (hR:hullR S = [a,z]) :
  ShOk [a,z] p [(a,reachM a z z - reachM a z p),(z,reachM a z p)]:=by
 have hne:a ≠ z:=fun e=>by have:=T.lt; rw [e] at this; omega
 have hL:=(show NoShut (hullR S) p by rw [hR]; exact h).left T
 rw [hR] at hL
 have t1:=hL a z (.inl ⟨[],[],rfl⟩)
 have t2:=hL z a (.inr ⟨rfl,rfl⟩)
 have ht:turn a z p = 0:=by rw [turn_swap] at t2; omega
 have lz:0 < reachM a z z:=sq_pos (by
  rcases Int.lt_trichotomy z.1 a.1 with k | k | k
  ·left; omega
  ·right; intro k2; exact hne (Prod.ext (by omega) (by omega))
  ·left; omega)
 have na:0≤reachM a z p:=by
  by_cases e:p = a
  ·subst e; unfold reachM; simp
  ·obtain ⟨q,hq,k⟩:=h.front (e:=a) (by simp) e
   simp at hq
   rcases hq with rfl | rfl
   ·rw [wrt_across] at k; simp at k
   ·rw [wrt_across] at k
    have:reachM a q p = -((a.1 - p.1) * (q.1 - a.1)+(a.2 - p.2) * (q.2 - a.2)):=by unfold reachM; grind
    omega
 have nz:0≤reachM a z z - reachM a z p:=by
  by_cases e:p = z
  ·subst e; omega
  ·obtain ⟨q,hq,k⟩:=h.front (e:=z) (by simp) e
   simp at hq
   rcases hq with rfl | rfl
   ·rw [wrt_across] at k
    have:reachM q z z - reachM q z p = -((z.1 - p.1) * (q.1 - z.1)+(z.2 - p.2) * (q.2 - z.2)):=by unfold reachM; grind
    omega
   ·rw [wrt_across] at k; simp at k
 have kx:reachM a z z * (p.1 - a.1) = reachM a z p * (z.1 - a.1):=by
  have e:reachM a z z * (p.1 - a.1) = reachM a z p * (z.1 - a.1) - (z.2 - a.2) * turn a z p:=by unfold reachM turn; grind
  rw [e,ht]; simp
 have ky:reachM a z z * (p.2 - a.2) = reachM a z p * (z.2 - a.2):=by
  have e:reachM a z z * (p.2 - a.2) = reachM a z p * (z.2 - a.2)+(z.1 - a.1) * turn a z p:=by unfold reachM turn; grind
  rw [e,ht]; simp
 have le:=reach_le ba bz bz
 refine ⟨by simp,by simp [hne],by simp,?_,?_,?_,?_,?_⟩
 ·intro e he; simp at he; rcases he with rfl | rfl <;> assumption
 ·simp; omega
 ·simp; omega
 ·simp; grind
 ·simp; grind
theorem three_ok {R:List Pt} {a b c p:Pt} (ha:a ∈ R) (hb:b ∈ R) (hc:c ∈ R) (ba:Bd2 a) (bb:Bd2 b) (bc:Bd2 c) (h:0 < turn a b c) (h1:0≤turn a b p) (h2:0≤turn b c p) (h3:0≤turn c a p) :
  ShOk R p [(a,turn b c p),(b,turn c a p),(c,turn a b p)]:=by
 have n1:a ≠ b:=fun e=>by subst e; rw [turn_aa] at h; omega
 have n2:b ≠ c:=fun e=>by subst e; rw [turn_same'] at h; omega
 have n3:a ≠ c:=fun e=>by subst e; rw [turn_same] at h; omega
 have sm:=three_sum a b c p
 have le:=turn_le ba bb bc
 have ex:=three_eq (1,0,0) a b c p
 have ey:=three_eq (0,1,0) a b c p
 simp only [wrt] at ex ey
 refine ⟨by simp,by simp [n1,n2,n3],?_,?_,?_,?_,?_,?_⟩
 ·intro e he; simp at he; rcases he with rfl | rfl | rfl <;> assumption
 ·intro e he; simp at he; rcases he with rfl | rfl | rfl <;> assumption
 ·simp; omega
 ·simp; omega
 ·simp only [List.map_cons,List.map_nil,List.sum_cons,List.sum_nil]
  have:turn b c p+(turn c a p+(turn a b p+0)) = turn a b c:=by omega
  rw [this]; grind
 ·simp only [List.map_cons,List.map_nil,List.sum_cons,List.sum_nil]
  have:turn b c p+(turn c a p+(turn a b p+0)) = turn a b c:=by omega
  rw [this]; grind
theorem ShOk.line {R:List Pt} {p:Pt} {sh:List (Pt×Int)} (h:ShOk R p sh) (l:Ln):(sh.map fun e=>e.2 * wrt l e.1).sum = (sh.map (·.2)).sum * wrt l p:=by
 have go:∀ sh:List (Pt×Int),(sh.map fun e=>e.2 * wrt l e.1).sum = l.1 * (sh.map fun e=>e.2 * e.1.1).sum+l.2.1 * (sh.map fun e=>e.2 * e.1.2).sum+l.2.2 * (sh.map (·.2)).sum:=fun sh=>by
  induction sh with
  | nil=>simp
  | cons e r ih=>simp only [List.map_cons,List.sum_cons,ih]; unfold wrt; grind
 rw [go,h.x,h.y]; unfold wrt; grind
theorem sum_nn {α:Type} {f:α→Int}:∀ {l:List α},(∀ x ∈ l,0≤f x)→0≤(l.map f).sum
 | [],_=>by simp
 | x :: r,h=>by
  have h1:=h x (by simp)
  have h2:=sum_nn (l:=r) fun y hy=>h y (by simp [hy])
  simp; omega
theorem ShOk.hull {R:List Pt} {p:Pt} {sh:List (Pt×Int)} (h:ShOk R p sh):InHull R p:=fun l k=>by
 have e:=h.line l
 have nn:0≤(sh.map fun e=>e.2 * wrt l e.1).sum:=sum_nn fun e he=>Int.mul_nonneg (h.nn e he) (k e.1 (h.mem e he))
 rw [e] at nn
 exact nonneg_of_mul h.pos nn
end Geo
set_option maxRecDepth 100000
namespace Geo
theorem gcd_step {a b:Int} (ha:0≤a) (hb:0 < b):Int.gcd b (a % b) = Int.gcd a b:=by
 obtain ⟨m,rfl⟩:=Int.eq_ofNat_of_zero_le ha
 obtain ⟨n,rfl⟩:=Int.eq_ofNat_of_zero_le (Int.le_of_lt hb)
 show Nat.gcd n (Int.natAbs ((m:Int) % (n:Int))) = Nat.gcd m n
 rw [← Int.natCast_emod,Int.natAbs_natCast,Nat.gcd_comm m n,Nat.gcd_rec n m,Nat.gcd_comm]
theorem gcd_zero {a:Int} (ha:0≤a):((Int.gcd a 0:Nat):Int) = a:=by simp; omega
theorem gcd_pos {a b:Int} (h:0 < b):0 < Int.gcd a b:=Int.gcd_pos_of_ne_zero_right _ (by omega)
theorem div_le {s g:Int} (hs:0≤s) (hg:0 < g):s / g≤s:=by
 have h1:=Int.ediv_mul_le s (show g ≠ 0 by omega)
 have h0:=Int.ediv_nonneg hs (Int.le_of_lt hg)
 have h2:0≤s / g * (g - 1):=Int.mul_nonneg h0 (by omega)
 have h3:s / g * (g - 1) = s / g * g - s / g:=by rw [Int.mul_sub,Int.mul_one]
 omega
theorem perm_sum {l m:List Int} (h:l.Perm m):l.sum = m.sum:=by
 induction h with
 | nil=>rfl
 | cons x _ ih=>simp [ih]
 | swap x y l=>simp; omega
 | trans _ _ h1 h2=>exact h1.trans h2
theorem sum_filter {α:Type} {f:α→Int} {q:α→Bool}:∀ {l:List α},(∀ x ∈ l,q x = false→f x = 0)→((l.filter q).map f).sum = (l.map f).sum
 | [],_=>rfl
 | x :: r,h=>by
  have ih:=sum_filter (l:=r) fun y hy=>h y (by simp [hy])
  cases e:q x with
  | true=>rw [List.filter_cons_of_pos e]; simp [ih]
  | false =>
   rw [List.filter_cons_of_neg (by simp [e])]
   have:=h x (by simp) e
   simp [ih,this]
abbrev Tri:=Int×Int×Int
def ptAt (ps:List Pt) (n:Int):Pt:=ps.getD n.toNat (0,0)
def wgt (W:Int) (q:Pt):Tri:=(q.1,q.2 / (Int.gcd q.2 W:Nat),W / (Int.gcd q.2 W:Nat))
def weighM (W:Int) (prs:List Pt):List Tri:=(prs.filter fun q=>decide (0 < q.2)).map (wgt W)
structure Acc where
 x:Int
 y:Int
 n:Int
 b:Int
def Acc.step (ps:List Pt) (c:Acc) (t:Tri):Acc:=⟨c.x * t.2.2+(ptAt ps t.1).1 * t.2.1 * c.b,c.y * t.2.2+(ptAt ps t.1).2 * t.2.1 * c.b,c.n * t.2.2+1 * t.2.1 * c.b,c.b * t.2.2⟩
def accM (ps:List Pt) (tri:List Tri):Acc:=tri.foldl (Acc.step ps) ⟨0,0,0,1⟩
structure WOk (ps:List Pt) (tri:List Tri) (spot:Tri):Prop where
 len:1≤tri.length∧tri.length≤3
 part:∀ t ∈ tri,0 < t.2.1∧0 < t.2.2∧Int.gcd t.2.1 t.2.2 = 1∧t.2.1≤64000000∧t.2.2≤64000000
 ix:∀ t ∈ tri,0≤t.1∧t.1 < ps.length
 inc:tri.Pairwise fun s t=>s.1 < t.1
 one:(accM ps tri).n = (accM ps tri).b
 px:(accM ps tri).x * spot.2.2 = spot.1 * (accM ps tri).b
 py:(accM ps tri).y * spot.2.2 = spot.2.1 * (accM ps tri).b
theorem wgt_eq {W:Int} {q:Pt}:(wgt W q).2.1 * W = q.2 * (wgt W q).2.2:=by
 obtain ⟨u,hu⟩:=Int.gcd_dvd_left q.2 W
 obtain ⟨v,hv⟩:=Int.gcd_dvd_right q.2 W
 unfold wgt; dsimp only
 by_cases h:(Int.gcd q.2 W:Int) = 0
 ·rw [h] at hu hv ⊢; simp at hu hv; simp [hu,hv]
 ·have e1:q.2 / (Int.gcd q.2 W:Nat) = u:=Int.ediv_eq_of_eq_mul_right h hu
  have e2:W / (Int.gcd q.2 W:Nat) = v:=Int.ediv_eq_of_eq_mul_right h hv
  rw [e1,e2]
  generalize (Int.gcd q.2 W:Int) = g at *
  rw [hu,hv]; grind
theorem acc_inv {ps:List Pt} {W:Int}:∀ (prs:List Pt) (c:Acc) (X Y N:Int),W * c.x = c.b * X→W * c.y = c.b * Y→W * c.n = c.b * N →
  let d:=(prs.map (wgt W)).foldl (Acc.step ps) c
  W * d.x = d.b * (X+(prs.map fun q=>q.2 * (ptAt ps q.1).1).sum)∧W * d.y = d.b * (Y+(prs.map fun q=>q.2 * (ptAt ps q.1).2).sum)∧W * d.n = d.b * (N+(prs.map fun q=>q.2).sum)
 | [],c,X,Y,N,h1,h2,h3=>by simp; exact ⟨h1,h2,h3⟩
 | q :: r,c,X,Y,N,h1,h2,h3=>by
  have e:=wgt_eq (W:=W) (q:=q)
  have ih:=acc_inv (ps:=ps) (W:=W) r (Acc.step ps c (wgt W q)) (X+q.2 * (ptAt ps q.1).1) (Y+q.2 * (ptAt ps q.1).2) (N+q.2)
   (by unfold Acc.step; dsimp only; rw [show (wgt W q).1 = q.1 from rfl]; grind)
   (by unfold Acc.step; dsimp only; rw [show (wgt W q).1 = q.1 from rfl]; grind)
   (by unfold Acc.step; dsimp only; grind)
  simp only [List.map_cons,List.foldl_cons,List.sum_cons]
  simp only [Int.add_assoc] at ih ⊢
  exact ih
structure PrOk (ps:List Pt) (prs:List Pt) (spot:Tri):Prop where
 len:prs.length≤3
 nd:(prs.map (·.1)).Nodup
 ix:∀ q ∈ prs,0≤q.1∧q.1 < ps.length
 nn:∀ q ∈ prs,0≤q.2
 pos:0 < (prs.map (·.2)).sum
 lt:(prs.map (·.2)).sum≤64000000
 x:(prs.map fun q=>q.2 * (ptAt ps q.1).1).sum * spot.2.2 = spot.1 * (prs.map (·.2)).sum
 y:(prs.map fun q=>q.2 * (ptAt ps q.1).2).sum * spot.2.2 = spot.2.1 * (prs.map (·.2)).sum
theorem le_sum {α:Type} {f:α→Int}:∀ {l:List α},(∀ x ∈ l,0≤f x)→∀ x ∈ l,f x≤(l.map f).sum
 | y :: r,h,x,hx=>by
  have h1:=h y (by simp)
  have h2:=sum_nn (l:=r) fun z hz=>h z (by simp [hz])
  simp only [List.map_cons,List.sum_cons]
  rcases List.mem_cons.mp hx with e | e
  ·subst e; omega
  ·have:=le_sum (l:=r) (fun z hz=>h z (by simp [hz])) x e
   omega
theorem weigh_ok {ps prs:List Pt} {spot:Tri} (h:PrOk ps prs spot):WOk ps (weighM (prs.map (·.2)).sum (sortP prs)) spot:=by
 have pm:=sortP_perm prs
 have mem:∀ q,q ∈ sortP prs↔q ∈ prs:=fun q=>pm.mem_iff
 generalize hW:(prs.map (·.2)).sum = W at *
 have hpos:0 < W:=hW ▸ h.pos
 have hlt:W≤64000000:=hW ▸ h.lt
 have fm:∀ q,q ∈ (sortP prs).filter (fun q=>decide (0 < q.2))↔q ∈ prs∧0 < q.2:=fun q=>by rw [List.mem_filter,mem]; simp
 have z:∀ q ∈ sortP prs,decide (0 < q.2) = false→q.2 = 0:=fun q hq e=>by
  have:=h.nn q ((mem q).mp hq)
  have:¬ 0 < q.2:=of_decide_eq_false e
  omega
 have sN:(((sortP prs).filter fun q=>decide (0 < q.2)).map fun q=>q.2).sum = W:=by
  rw [sum_filter z,perm_sum (pm.map _),hW]
 have sX:(((sortP prs).filter fun q=>decide (0 < q.2)).map fun q=>q.2 * (ptAt ps q.1).1).sum = (prs.map fun q=>q.2 * (ptAt ps q.1).1).sum:=by
  rw [sum_filter fun q hq e=>by rw [z q hq e]; simp,perm_sum (pm.map _)]
 have sY:(((sortP prs).filter fun q=>decide (0 < q.2)).map fun q=>q.2 * (ptAt ps q.1).2).sum = (prs.map fun q=>q.2 * (ptAt ps q.1).2).sum:=by
  rw [sum_filter fun q hq e=>by rw [z q hq e]; simp,perm_sum (pm.map _)]
 obtain ⟨ax,ay,an⟩:=acc_inv (ps:=ps) (W:=W) ((sortP prs).filter fun q=>decide (0 < q.2)) ⟨0,0,0,1⟩ 0 0 0 (by simp) (by simp) (by simp)
 rw [sX,Int.zero_add] at ax
 rw [sY,Int.zero_add] at ay
 rw [sN,Int.zero_add] at an
 have canc:∀ {u v:Int},W * u = W * v→u = v:=fun {u v} e=>Int.eq_of_mul_eq_mul_left (by omega) e
 refine ⟨⟨?_,?_⟩,fun t ht=>?_,fun t ht=>?_,?_,?_,?_,?_⟩
 ·unfold weighM; rw [List.length_map]
  cases e:(sortP prs).filter (fun q=>decide (0 < q.2)) with
  | nil=>rw [e] at sN; simp at sN; omega
  | cons a r=>simp
 ·unfold weighM; rw [List.length_map]
  have h1:=List.length_filter_le (fun q:Pt=>decide (0 < q.2)) (sortP prs)
  rw [sortP_length] at h1
  have:=h.len; omega
 ·obtain ⟨q,hq,rfl⟩:=List.mem_map.mp ht
  obtain ⟨hq,hp⟩:=(fm q).mp hq
  have hg:0 < Int.gcd q.2 W:=gcd_pos hpos
  have hg':(0:Int) < (Int.gcd q.2 W:Nat):=by omega
  have d1:=Int.gcd_dvd_left q.2 W
  have d2:=Int.gcd_dvd_right q.2 W
  have le:=le_sum (f:=fun q:Pt=>q.2) h.nn q hq
  rw [show (prs.map fun q:Pt=>q.2).sum = W from hW] at le
  refine ⟨Int.ediv_pos_of_pos_of_dvd hp (by omega) d1,Int.ediv_pos_of_pos_of_dvd hpos (by omega) d2,Int.gcd_ediv_gcd_ediv_gcd hg,?_,?_⟩
  ·have:=div_le (s:=q.2) (by omega) hg'
   show q.2 / _≤_; omega
  ·have:=div_le (s:=W) (by omega) hg'
   show W / _≤_; omega
 ·obtain ⟨q,hq,rfl⟩:=List.mem_map.mp ht
  exact h.ix q ((fm q).mp hq).1
 ·unfold weighM
  rw [List.pairwise_map]
  have hn:((sortP prs).map (·.1)).Nodup:=(pm.map _).nodup_iff.mpr h.nd
  have h2:(sortP prs).Pairwise fun a b:Pt=>a.1 ≠ b.1:=by
   have:=hn
   unfold List.Nodup at this
   rwa [List.pairwise_map] at this
  refine ((sortP_pw prs).and h2).filter _ |>.imp fun {a b} hab=>?_
  have:=leP_iff.mp hab.1
  have:=hab.2
  show a.1 < b.1
  omega
 ·show (accM ps (weighM W (sortP prs))).n = _
  exact canc (an.trans (Int.mul_comm _ _))
 ·have hx:=h.x
  rw [hW] at hx
  refine canc ?_
  show W * ((accM ps (weighM W (sortP prs))).x * spot.2.2) = W * (spot.1 * (accM ps (weighM W (sortP prs))).b)
  have ax':W * (accM ps (weighM W (sortP prs))).x = (accM ps (weighM W (sortP prs))).b * (prs.map fun q=>q.2 * (ptAt ps q.1).1).sum:=ax
  generalize (accM ps (weighM W (sortP prs))) = c at ax' ⊢
  grind
 ·have hy:=h.y
  rw [hW] at hy
  refine canc ?_
  show W * ((accM ps (weighM W (sortP prs))).y * spot.2.2) = W * (spot.2.1 * (accM ps (weighM W (sortP prs))).b)
  have ay':W * (accM ps (weighM W (sortP prs))).y = (accM ps (weighM W (sortP prs))).b * (prs.map fun q=>q.2 * (ptAt ps q.1).2).sum:=ay
  generalize (accM ps (weighM W (sortP prs))) = c at ay' ⊢
  grind
end Geo
set_option maxRecDepth 100000
namespace Geo
def lookP:List Pt→Int→Int
 | [],_=>0
 | q :: r,n=>if q.1 = n then q.2 else lookP r n
def addP:List Pt→Int→Int→List Pt
 | [],n,s=>[(n,0+s)]
 | q :: r,n,s=>if q.1 = n then (q.1,q.2+s) :: r else q :: addP r n s
theorem addP_sum (f:Int→Int) (n s:Int):∀ acc:List Pt,((addP acc n s).map fun q=>q.2 * f q.1).sum = (acc.map fun q=>q.2 * f q.1).sum+s * f n
 | []=>by simp [addP]
 | q :: r=>by
  unfold addP
  by_cases h:q.1 = n
  ·rw [if_pos h]; simp only [List.map_cons,List.sum_cons]; rw [h]; grind
  ·rw [if_neg h]; simp only [List.map_cons,List.sum_cons,addP_sum f n s r]; omega
theorem addP_keys (n s:Int):∀ acc:List Pt,∀ k,k ∈ (addP acc n s).map (·.1)↔k = n∨k ∈ acc.map (·.1)
 | [],k=>by simp [addP]
 | q :: r,k=>by
  unfold addP
  by_cases h:q.1 = n
  ·rw [if_pos h]; simp only [List.map_cons,List.mem_cons,h]
   constructor
   ·intro z; exact .inr z
   ·rintro (z | z)
    ·exact .inl z
    ·exact z
  ·rw [if_neg h]; simp only [List.map_cons,List.mem_cons,addP_keys n s r k]
   constructor
   ·rintro (z | z | z)
    ·exact .inr (.inl z)
    ·exact .inl z
    ·exact .inr (.inr z)
   ·rintro (z | z | z)
    ·exact .inr (.inl z)
    ·exact .inl z
    ·exact .inr (.inr z)
theorem addP_nd (n s:Int):∀ acc:List Pt,(acc.map (·.1)).Nodup→((addP acc n s).map (·.1)).Nodup
 | [],_=>by simp [addP]
 | q :: r,h=>by
  unfold addP
  by_cases e:q.1 = n
  ·rw [if_pos e]; exact h
  ·rw [if_neg e]
   rw [List.map_cons,List.nodup_cons] at h ⊢
   refine ⟨fun z=>?_,addP_nd n s r h.2⟩
   rcases (addP_keys n s r q.1).mp z with z | z
   ·exact e z
   ·exact h.1 z
theorem addP_nn {n s:Int} (hs:0≤s):∀ acc:List Pt,(∀ q ∈ acc,0≤q.2)→∀ q ∈ addP acc n s,0≤q.2
 | [],_,q,hq=>by simp [addP] at hq; rw [hq]; exact hs
 | p :: r,h,q,hq=>by
  unfold addP at hq
  have hp:=h p (by simp)
  by_cases e:p.1 = n
  ·rw [if_pos e] at hq
   rcases List.mem_cons.mp hq with z | z
   ·rw [z]; dsimp only; omega
   ·exact h q (by simp [z])
  ·rw [if_neg e] at hq
   rcases List.mem_cons.mp hq with z | z
   ·rw [z]; exact hp
   ·exact addP_nn hs r (fun q hq=>h q (by simp [hq])) q z
theorem addP_len (n s:Int):∀ acc:List Pt,(addP acc n s).length≤acc.length+1
 | []=>by simp [addP]
 | q :: r=>by
  unfold addP
  by_cases e:q.1 = n
  ·rw [if_pos e]; simp
  ·rw [if_neg e]; have:=addP_len n s r; simp; omega
structure AddOk (prs out:List Pt):Prop where
 nd:(out.map (·.1)).Nodup
 len:out.length≤prs.length
 keys:∀ k,k ∈ out.map (·.1)→k ∈ prs.map (·.1)
 sum:∀ f:Int→Int,(out.map fun q=>q.2 * f q.1).sum = (prs.map fun q=>q.2 * f q.1).sum
 nn:(∀ q ∈ prs,0≤q.2)→∀ q ∈ out,0≤q.2
theorem AddOk.nil:AddOk [] []:=⟨by simp,by simp,by simp,by simp,by simp⟩
theorem AddOk.snoc {prs out:List Pt} (h:AddOk prs out) (q:Pt):AddOk (prs++[q]) (addP out q.1 q.2):=by
 refine ⟨addP_nd _ _ _ h.nd,?_,fun k hk=>?_,fun f=>?_,fun hn p hp=>?_⟩
 ·have:=addP_len q.1 q.2 out; have:=h.len; simp; omega
 ·rcases (addP_keys q.1 q.2 out k).mp hk with z | z
  ·rw [z]; simp
  ·have:=h.keys k z; rw [List.map_append,List.mem_append]; exact .inl this
 ·rw [addP_sum,h.sum,List.map_append,List.sum_append_int]; simp
 ·exact addP_nn (hn q (by simp)) out (h.nn fun r hr=>hn r (by simp [hr])) p hp
theorem AddOk.tot {prs out:List Pt} (h:AddOk prs out):(out.map (·.2)).sum = (prs.map (·.2)).sum:=by
 have:=h.sum fun _=>1
 simpa using this
def gcd3 (t:Tri):Nat:=Int.gcd (Int.gcd t.1 t.2.1:Nat) t.2.2
def lowM (t:Tri):Tri:=(t.1 / (gcd3 t:Nat),t.2.1 / (gcd3 t:Nat),t.2.2 / (gcd3 t:Nat))
theorem gcd3_dvd (t:Tri):((gcd3 t:Nat):Int) ∣ t.1∧((gcd3 t:Nat):Int) ∣ t.2.1∧((gcd3 t:Nat):Int) ∣ t.2.2:=by
 have h1:((gcd3 t:Nat):Int) ∣ ((Int.gcd t.1 t.2.1:Nat):Int):=Int.gcd_dvd_left _ _
 exact ⟨Int.dvd_trans h1 (Int.gcd_dvd_left _ _),Int.dvd_trans h1 (Int.gcd_dvd_right _ _),Int.gcd_dvd_right _ _⟩
theorem lowM_mul (t:Tri):(lowM t).1 * (gcd3 t:Nat) = t.1∧(lowM t).2.1 * (gcd3 t:Nat) = t.2.1∧(lowM t).2.2 * (gcd3 t:Nat) = t.2.2:=by
 obtain ⟨h1,h2,h3⟩:=gcd3_dvd t
 exact ⟨Int.ediv_mul_cancel h1,Int.ediv_mul_cancel h2,Int.ediv_mul_cancel h3⟩
structure SpOk (t:Tri):Prop where
 pos:0 < t.2.2
 low:gcd3 t = 1
theorem lowM_ok {t:Tri} (h:0 < t.2.2):SpOk (lowM t):=by
 have hg:0 < gcd3 t:=gcd_pos h
 have hg':(0:Int) < (gcd3 t:Nat):=by omega
 obtain ⟨d1,d2,d3⟩:=gcd3_dvd t
 refine ⟨Int.ediv_pos_of_pos_of_dvd h (by omega) d3,?_⟩
 have e1:Int.gcd (t.1 / (gcd3 t:Nat)) (t.2.1 / (gcd3 t:Nat)) = Int.gcd t.1 t.2.1 / gcd3 t:=by
  have:=Int.gcd_ediv d1 d2
  rw [this,Int.natAbs_natCast]
 show Int.gcd (Int.gcd (t.1 / (gcd3 t:Nat)) (t.2.1 / (gcd3 t:Nat)):Nat) (t.2.2 / (gcd3 t:Nat)) = 1
 rw [e1,Int.natCast_ediv]
 have h1:((gcd3 t:Nat):Int) ∣ ((Int.gcd t.1 t.2.1:Nat):Int):=Int.gcd_dvd_left _ _
 have:=Int.gcd_ediv h1 d3
 rw [this,Int.natAbs_natCast]
 exact Nat.div_self hg
theorem abs_div_le {s g:Int} (hg:0 < g):-(s.natAbs:Int)≤s / g∧s / g≤(s.natAbs:Int):=by
 have h1:=Int.natAbs_ediv_le_natAbs s g
 omega
structure LineOk (A B:List Pt) (l:Ln):Prop where
 pos:∀ a ∈ A,0 < wrt l a
 neg:∀ b ∈ B,wrt l b < 0
def wS (l:Ln) (t:Tri):Int:=l.1 * t.1+l.2.1 * t.2.1+l.2.2 * t.2.2
def InHullS (ps:List Pt) (t:Tri):Prop:=∀ l:Ln,(∀ q ∈ ps,0≤wrt l q)→0≤wS l t
def subP (a b:Pt):Pt:=(a.1 - b.1,a.2 - b.2)
theorem line_between_ok {A B D:List Pt} {l:Ln} (hD:∀ a ∈ A,∀ b ∈ B,subP a b ∈ D) (h:Out D (0,0) l) {low high:Int} (h1:∃ a ∈ A,low = wrt (l.1,l.2.1,0) a) (h2:∀ a ∈ A,low≤wrt (l.1,l.2.1,0) a)
  (h3:∃ b ∈ B,high = wrt (l.1,l.2.1,0) b) (h4:∀ b ∈ B,wrt (l.1,l.2.1,0) b≤high):LineOk A B (2 * l.1,2 * l.2.1,-low - high):=by
 obtain ⟨a0,ha0,e1⟩:=h1
 obtain ⟨b0,hb0,e2⟩:=h3
 have n:=h.1
 have p:=h.2 _ (hD a0 ha0 b0 hb0)
 have gap:high < low:=by
  unfold wrt subP at *; dsimp only at *; simp at n; grind
 refine ⟨fun a ha=>?_,fun b hb=>?_⟩
 ·have:=h2 a ha
  unfold wrt at *; dsimp only at *; grind
 ·have:=h4 b hb
  unfold wrt at *; dsimp only at *; grind
theorem sum_sub {α:Type} {f g:α→Int}:∀ l:List α,(l.map fun x=>f x - g x).sum = (l.map f).sum - (l.map g).sum
 | []=>by simp
 | x :: r=>by simp [sum_sub r]; omega
abbrev ShN:=(Pt×Pt)×Int
structure ShnOk (A B:List Pt) (shn:List ShN):Prop where
 ix:∀ e ∈ shn,0≤e.1.2.1∧e.1.2.1 < A.length∧0≤e.1.2.2∧e.1.2.2 < B.length∧e.1.1 = subP (ptAt A e.1.2.1) (ptAt B e.1.2.2)
def ones (shn:List ShN):List Pt:=shn.map fun e=>(e.1.2.1,e.2)
def othrs (shn:List ShN):List Pt:=shn.map fun e=>(e.1.2.2,e.2)
theorem spot_ok {A B R:List Pt} {shn:List ShN} {o1 o2:List Pt} (h:ShOk R (0,0) (shn.map fun e=>(e.1.1,e.2))) (hn:ShnOk A B shn) (a1:AddOk (ones shn) o1) (a2:AddOk (othrs shn) o2) :
  let t:Tri:=((o1.map fun q=>q.2 * (ptAt A q.1).1).sum,(o1.map fun q=>q.2 * (ptAt A q.1).2).sum,(o1.map (·.2)).sum)
  0 < t.2.2∧t.2.2≤64000000∧PrOk A o1 (lowM t)∧PrOk B o2 (lowM t):=by
 intro t
 have W1:(o1.map (·.2)).sum = (shn.map (·.2)).sum:=by rw [a1.tot]; unfold ones; rw [List.map_map]; rfl
 have W2:(o2.map (·.2)).sum = (shn.map (·.2)).sum:=by rw [a2.tot]; unfold othrs; rw [List.map_map]; rfl
 have Wsh:((shn.map fun e=>(e.1.1,e.2)).map (·.2)).sum = (shn.map (·.2)).sum:=by rw [List.map_map]; rfl
 have pos:0 < (shn.map (·.2)).sum:=by rw [← Wsh]; exact h.pos
 have lt:(shn.map (·.2)).sum≤64000000:=by rw [← Wsh]; exact h.lt
 have nn:∀ e ∈ shn,0≤e.2:=fun e he=>h.nn (e.1.1,e.2) (List.mem_map.mpr ⟨e,he,rfl⟩)
 have X1:(o1.map fun q=>q.2 * (ptAt A q.1).1).sum = (shn.map fun e=>e.2 * (ptAt A e.1.2.1).1).sum:=by rw [a1.sum fun n=>(ptAt A n).1]; unfold ones; rw [List.map_map]; rfl
 have Y1:(o1.map fun q=>q.2 * (ptAt A q.1).2).sum = (shn.map fun e=>e.2 * (ptAt A e.1.2.1).2).sum:=by rw [a1.sum fun n=>(ptAt A n).2]; unfold ones; rw [List.map_map]; rfl
 have X2:(o2.map fun q=>q.2 * (ptAt B q.1).1).sum = (shn.map fun e=>e.2 * (ptAt B e.1.2.2).1).sum:=by rw [a2.sum fun n=>(ptAt B n).1]; unfold othrs; rw [List.map_map]; rfl
 have Y2:(o2.map fun q=>q.2 * (ptAt B q.1).2).sum = (shn.map fun e=>e.2 * (ptAt B e.1.2.2).2).sum:=by rw [a2.sum fun n=>(ptAt B n).2]; unfold othrs; rw [List.map_map]; rfl
 have zx:(shn.map fun e=>e.2 * (ptAt A e.1.2.1).1).sum = (shn.map fun e=>e.2 * (ptAt B e.1.2.2).1).sum:=by
  have z:=h.x
  rw [List.map_map] at z
  have e:(shn.map ((fun e:Pt×Int=>e.2 * e.1.1) ∘ fun e:ShN=>(e.1.1,e.2))) = shn.map fun e=>e.2 * (ptAt A e.1.2.1).1 - e.2 * (ptAt B e.1.2.2).1:=by
   refine List.map_congr_left fun e he=>?_
   have:=(hn.ix e he).2.2.2.2
   show e.2 * e.1.1.1 = _
   rw [this]; unfold subP; dsimp only; grind
  rw [e,sum_sub] at z
  simp at z; omega
 have zy:(shn.map fun e=>e.2 * (ptAt A e.1.2.1).2).sum = (shn.map fun e=>e.2 * (ptAt B e.1.2.2).2).sum:=by
  have z:=h.y
  rw [List.map_map] at z
  have e:(shn.map ((fun e:Pt×Int=>e.2 * e.1.2) ∘ fun e:ShN=>(e.1.1,e.2))) = shn.map fun e=>e.2 * (ptAt A e.1.2.1).2 - e.2 * (ptAt B e.1.2.2).2:=by
   refine List.map_congr_left fun e he=>?_
   have:=(hn.ix e he).2.2.2.2
   show e.2 * e.1.1.2 = _
   rw [this]; unfold subP; dsimp only; grind
  rw [e,sum_sub] at z
  simp at z; omega
 have tw:t.2.2 = (shn.map (·.2)).sum:=W1
 obtain ⟨m1,m2,m3⟩:=lowM_mul t
 have hlen:shn.length≤3:=by have:=h.len; simpa using this
 have gpos:(0:Int) < (gcd3 t:Nat):=by have:=gcd_pos (a:=((Int.gcd t.1 t.2.1:Nat):Int)) (b:=t.2.2) (by rw [tw]; exact pos); unfold gcd3; omega
 have canc:∀ {u v:Int},(gcd3 t:Nat) * u = (gcd3 t:Nat) * v→u = v:=fun {u v} e=>Int.eq_of_mul_eq_mul_left (by omega) e
 have t1:t.1 = (o1.map fun q=>q.2 * (ptAt A q.1).1).sum:=rfl
 have t2:t.2.1 = (o1.map fun q=>q.2 * (ptAt A q.1).2).sum:=rfl
 have t3:t.2.2 = (o1.map (·.2)).sum:=rfl
 refine ⟨by rw [tw]; exact pos,by rw [tw]; exact lt,⟨?_,a1.nd,fun q hq=>?_,a1.nn ?_,?_,?_,?_,?_⟩,⟨?_,a2.nd,fun q hq=>?_,a2.nn ?_,?_,?_,?_,?_⟩⟩
 ·have:=a1.len; unfold ones at this; rw [List.length_map] at this; omega
 ·have:=a1.keys q.1 (List.mem_map.mpr ⟨q,hq,rfl⟩)
  unfold ones at this; rw [List.map_map] at this
  obtain ⟨e,he,hk⟩:=List.mem_map.mp this
  have i:=hn.ix e he
  have hk':e.1.2.1 = q.1:=hk
  omega
 ·intro q hq
  obtain ⟨e,he,rfl⟩:=List.mem_map.mp hq
  exact nn e he
 ·rw [W1]; exact pos
 ·rw [W1]; exact lt
 ·rw [← t1,← t3]; exact canc (by grind)
 ·rw [← t2,← t3]; exact canc (by grind)
 ·have:=a2.len; unfold othrs at this; rw [List.length_map] at this; omega
 ·have:=a2.keys q.1 (List.mem_map.mpr ⟨q,hq,rfl⟩)
  unfold othrs at this; rw [List.map_map] at this
  obtain ⟨e,he,hk⟩:=List.mem_map.mp this
  have i:=hn.ix e he
  have hk':e.1.2.2 = q.1:=hk
  omega
 ·intro q hq
  obtain ⟨e,he,rfl⟩:=List.mem_map.mp hq
  exact nn e he
 ·rw [W2]; exact pos
 ·rw [W2]; exact lt
 ·rw [X2,← zx,← X1,W2,← W1,← t1,← t3]; exact canc (by grind)
 ·rw [Y2,← zy,← Y1,W2,← W1,← t2,← t3]; exact canc (by grind)
theorem PrOk.hull {A prs:List Pt} {t:Tri} (h:PrOk A prs t) (ht:0 < t.2.2):InHullS A t:=fun l k=>by
 have go:∀ prs:List Pt,(prs.map fun q=>q.2 * wrt l (ptAt A q.1)).sum = l.1 * (prs.map fun q=>q.2 * (ptAt A q.1).1).sum+l.2.1 * (prs.map fun q=>q.2 * (ptAt A q.1).2).sum+l.2.2 * (prs.map (·.2)).sum:=fun prs=>by
  induction prs with
  | nil=>simp
  | cons e r ih=>simp only [List.map_cons,List.sum_cons,ih]; unfold wrt; grind
 have nn:0≤(prs.map fun q=>q.2 * wrt l (ptAt A q.1)).sum:=sum_nn fun q hq=>by
  obtain ⟨i1,i2⟩:=h.ix q hq
  refine Int.mul_nonneg (h.nn q hq) (k _ ?_)
  unfold ptAt
  have hk:q.1.toNat < A.length:=by omega
  rw [List.getD_eq_getElem?_getD,List.getElem?_eq_getElem hk]; exact List.getElem_mem hk
 rw [go] at nn
 have hx:=h.x
 have hy:=h.y
 have hp:=h.pos
 generalize (prs.map fun q=>q.2 * (ptAt A q.1).1).sum = X at *
 generalize (prs.map fun q=>q.2 * (ptAt A q.1).2).sum = Y at *
 generalize (prs.map (·.2)).sum = W at *
 have e:W * wS l t = (l.1 * X+l.2.1 * Y+l.2.2 * W) * t.2.2:=by unfold wS; grind
 have:=Int.mul_nonneg nn (Int.le_of_lt ht)
 rw [← e] at this
 exact nonneg_of_mul hp this
end Geo
namespace STab
open PySem
def Rising (xs:Array Nat):Prop:=∀ (i j a b:Nat),i < j→xs[i]? = some a→xs[j]? = some b→a < b
theorem below_go {xs:Array Nat} (hr:Rising xs) (j:Nat):∀ fuel lo hi,lo≤hi→hi≤xs.size→hi - lo≤fuel→(∀ i a,i < lo→xs[i]? = some a→a < j)→(∀ i a,hi≤i→xs[i]? = some a→j≤a) →
  SetTable.below.go xs j fuel lo hi≤xs.size∧(∀ i a,i < SetTable.below.go xs j fuel lo hi→xs[i]? = some a→a < j)∧∀ i a,SetTable.below.go xs j fuel lo hi≤i→xs[i]? = some a→j≤a
 | 0,lo,hi,h1,h2,h3,hl,hh=>by
  have e:lo = hi:=by omega
  subst e
  exact ⟨h2,hl,hh⟩
 | fuel+1,lo,hi,h1,h2,h3,hl,hh=>by
  unfold SetTable.below.go
  by_cases h:lo < hi
  ·rw [if_pos h]
   have hm:(lo+hi) / 2 < xs.size:=by omega
   have hg:xs.getD ((lo+hi) / 2) j = xs[(lo+hi) / 2]:=by simp [Array.getD,hm]
   have hs:xs[(lo+hi) / 2]? = some xs[(lo+hi) / 2]:=by simp [hm]
   dsimp only
   rw [hg]
   by_cases hc:xs[(lo+hi) / 2] < j
   ·rw [if_pos hc]
    refine below_go hr j fuel _ hi (by omega) h2 (by omega) (fun i a hi' e=>?_) hh
    by_cases hq:i = (lo+hi) / 2
    ·subst hq; rw [hs] at e; cases e; exact hc
    ·exact Nat.lt_trans (hr i _ a _ (by omega) e hs) hc
   ·rw [if_neg hc]
    refine below_go hr j fuel lo _ (by omega) (by omega) (by omega) hl (fun i a hi' e=>?_)
    by_cases hq:i = (lo+hi) / 2
    ·subst hq; rw [hs] at e; cases e; omega
    ·have:=hr _ i _ a (by omega) hs e
     omega
  ·rw [if_neg h]
   have e:lo = hi:=by omega
   subst e
   exact ⟨h2,hl,hh⟩
theorem below_spec {xs:Array Nat} (hr:Rising xs) (j:Nat):SetTable.below xs j≤xs.size∧(∀ i a,i < SetTable.below xs j→xs[i]? = some a→a < j)∧∀ i a,SetTable.below xs j≤i→xs[i]? = some a→j≤a :=
 below_go hr j xs.size 0 xs.size (Nat.zero_le _) (Nat.le_refl _) (by omega) (fun i a h=>by omega) (fun i a h e=>by have:=(Array.getElem?_eq_some_iff.mp e).1; omega)
variable {α:Type}
def occ (M:Nat→Option α) (n:Nat):List Nat:=(List.range n).filter fun j=>(M j).isSome
def ent (M:Nat→Option α) (n:Nat):List α:=(List.range n).filterMap M
theorem occ_succ (M:Nat→Option α) (n:Nat):occ M (n+1) = occ M n++(if (M n).isSome then [n] else []):=by
 unfold occ; rw [List.range_succ,List.filter_append]
 congr 1
 by_cases h:(M n).isSome = true
 ·simp [h]
 ·simp [h]
theorem ent_succ (M:Nat→Option α) (n:Nat):ent M (n+1) = ent M n++(M n).toList:=by
 unfold ent; rw [List.range_succ,List.filterMap_append]
 congr 1
theorem occ_length (M:Nat→Option α):∀ n,(occ M n).length = (ent M n).length
 | 0=>rfl
 | n+1=>by
  rw [occ_succ,ent_succ,List.length_append,List.length_append,occ_length M n]
  cases h:M n <;> simp
theorem occ_mem {M:Nat→Option α} {n j:Nat}:j ∈ occ M n↔j < n∧(M j).isSome = true:=by unfold occ; simp
theorem occ_rising (M:Nat→Option α) (n:Nat):(occ M n).Pairwise (· < ·):=by
 unfold occ; exact List.Pairwise.filter _ List.pairwise_lt_range
theorem occ_split {M:Nat→Option α} {n j:Nat} {x:α} (hj:j < n) (hx:M j = some x):∃ post post',occ M n = occ M j++j :: post∧ent M n = ent M j++x :: post':=by
 induction n with
 | zero=>omega
 | succ n ih =>
  rw [occ_succ,ent_succ]
  by_cases h:j = n
  ·subst h
   refine ⟨[],[],?_,?_⟩
   ·rw [hx]; rfl
   ·rw [hx]; rfl
  ·obtain ⟨p,p',h1,h2⟩:=ih (by omega)
   exact ⟨p++(if (M n).isSome then [n] else []),p'++(M n).toList,by rw [h1]; simp,by rw [h2]; simp⟩
theorem rising_of {l:List Nat} (h:l.Pairwise (· < ·)):Rising l.toArray:=fun i j a b hij ha hb=>by
 simp at ha hb
 obtain ⟨h1,e1⟩:=List.getElem?_eq_some_iff.mp ha
 obtain ⟨h2,e2⟩:=List.getElem?_eq_some_iff.mp hb
 subst e1 e2
 exact List.pairwise_iff_getElem.mp h i j h1 h2 hij
theorem below_occ (M:Nat→Option α) {n j:Nat} (hj:j≤n):SetTable.below (occ M n).toArray j = (occ M j).length:=by
 obtain ⟨h1,h2,h3⟩:=below_spec (rising_of (occ_rising M n)) j
 have pre:∃ post,occ M n = occ M j++post∧∀ k ∈ post,j≤k:=by
  clear h1 h2 h3
  induction n with
  | zero=>exact ⟨[],by rw [show j = 0 by omega]; simp,by simp⟩
  | succ n ih =>
   by_cases h:j = n+1
   ·subst h; exact ⟨[],by simp,by simp⟩
   ·obtain ⟨p,hp,hk⟩:=ih (by omega)
    refine ⟨p++(if (M n).isSome then [n] else []),by rw [occ_succ,hp]; simp,fun k hk'=>?_⟩
    rcases List.mem_append.mp hk' with z | z
    ·exact hk k z
    ·by_cases hc:(M n).isSome
     ·simp [hc] at z; omega
     ·simp [hc] at z
 obtain ⟨post,hp,hk⟩:=pre
 rcases Nat.lt_trichotomy (SetTable.below (occ M n).toArray j) (occ M j).length with c | c | c
 ·exfalso
  have g:(occ M n).toArray[SetTable.below (occ M n).toArray j]? = some (occ M j)[SetTable.below (occ M n).toArray j]:=by
   rw [List.getElem?_toArray]
   conv=>lhs; lhs; rw [hp]
   rw [List.getElem?_append_left c]
   exact List.getElem?_eq_getElem c
  have:=h3 _ _ (Nat.le_refl _) g
  have hm:(occ M j)[SetTable.below (occ M n).toArray j] ∈ occ M j:=List.getElem_mem c
  have:=(occ_mem.mp hm).1
  omega
 ·exact c
 ·exfalso
  have sz:(occ M j).length < (occ M n).length:=by
   have:SetTable.below (occ M n).toArray j≤(occ M n).length:=by simpa using h1
   omega
  rw [hp,List.length_append] at sz
  have hq:0 < post.length:=by omega
  have g:(occ M n).toArray[(occ M j).length]? = some post[0]:=by
   rw [List.getElem?_toArray,hp,List.getElem?_append_right (Nat.le_refl _),Nat.sub_self]
   exact List.getElem?_eq_getElem hq
  have:=h2 _ _ c g
  have:=hk post[0] (List.getElem_mem hq)
  omega
structure Rep (t:SetTable) (es:Array α) (M:Nat→Option α):Prop where
 pl:t.place = (occ M (t.mask+1)).toArray
 es:es = (ent M (t.mask+1)).toArray
 dm:t.dummies = #[]
theorem Rep.size {t:SetTable} {es:Array α} {M:Nat→Option α} (R:Rep t es M):t.place.size = es.size:=by
 rw [R.pl,R.es]; simp [occ_length]
theorem has_nil (j:Nat):SetTable.has #[] j = false:=by
 unfold SetTable.has SetTable.below SetTable.below.go
 simp
theorem Rep.slot_none {t:SetTable} {es:Array α} {M:Nat→Option α} (R:Rep t es M) {j:Nat} (hj:j≤t.mask) (h:M j = none):t.slot j = .empty:=by
 unfold SetTable.slot
 have e:¬ t.place[SetTable.below t.place j]? = some j:=fun q=>by
  rw [R.pl] at q
  have hm:=Array.mem_of_getElem? q
  have:=(occ_mem.mp (by simpa using hm)).2
  rw [h] at this; simp at this
 rw [R.dm]
 simp [e,has_nil]
theorem Rep.slot_some {t:SetTable} {es:Array α} {M:Nat→Option α} (R:Rep t es M) {j:Nat} (hj:j≤t.mask) {x:α} (h:M j = some x):t.slot j = .live (occ M j).length∧es[(occ M j).length]? = some x:=by
 obtain ⟨post,post',h1,h2⟩:=occ_split (n:=t.mask+1) (by omega) h
 have b:SetTable.below t.place j = (occ M j).length:=by rw [R.pl]; exact below_occ M (by omega)
 constructor
 ·unfold SetTable.slot
  have e:t.place[SetTable.below t.place j]? = some j:=by
   rw [b,R.pl,h1]; simp
  have e2:(t.place[SetTable.below t.place j]? == some j) = true:=by rw [e]; simp
  dsimp only
  rw [if_pos e2,b]
 ·rw [R.es,h2,occ_length]; simp
def setM (M:Nat→Option α) (j:Nat) (x:α):Nat→Option α:=fun k=>if k = j then some x else M k
theorem occ_congr {M N:Nat→Option α} {n:Nat} (h:∀ k,k < n→M k = N k):occ M n = occ N n:=by
 unfold occ; exact List.filter_congr fun k hk=>by rw [h k (by simpa using hk)]
theorem ent_congr {M N:Nat→Option α} {n:Nat} (h:∀ k,k < n→M k = N k):ent M n = ent N n:=by
 induction n with
 | zero=>rfl
 | succ n ih=>rw [ent_succ,ent_succ,ih fun k hk=>h k (by omega),h n (by omega)]
theorem put_split {M:Nat→Option α} {n j:Nat} (x:α) (hj:j < n) (h:M j = none):∃ post post',occ M n = occ M j++post∧ent M n = ent M j++post'∧occ (setM M j x) n = occ M j++j :: post∧ent (setM M j x) n = ent M j++x :: post':=by
 induction n with
 | zero=>omega
 | succ n ih =>
  by_cases e:j = n
  ·subst e
   have c1:occ (setM M j x) j = occ M j:=occ_congr fun k hk=>by unfold setM; rw [if_neg (by omega)]
   have c2:ent (setM M j x) j = ent M j:=ent_congr fun k hk=>by unfold setM; rw [if_neg (by omega)]
   have c3:setM M j x j = some x:=by unfold setM; rw [if_pos rfl]
   refine ⟨[],[],?_,?_,?_,?_⟩
   ·rw [occ_succ,h]; simp
   ·rw [ent_succ,h]; simp
   ·rw [occ_succ,c1,c3]; simp
   ·rw [ent_succ,c2,c3]; simp
  ·obtain ⟨p,p',h1,h2,h3,h4⟩:=ih (by omega)
   have c3:setM M j x n = M n:=by unfold setM; rw [if_neg (by omega)]
   refine ⟨p++(if (M n).isSome then [n] else []),p'++(M n).toList,?_,?_,?_,?_⟩
   ·rw [occ_succ,h1]; simp
   ·rw [ent_succ,h2]; simp
   ·rw [occ_succ,h3,c3]; simp
   ·rw [ent_succ,h4,c3]; simp
theorem insertAt_list {β:Type} (a b:List β) (x:β):SetTable.insertAt (a++b).toArray a.length x = (a++x :: b).toArray:=by
 unfold SetTable.insertAt
 apply Array.toList_inj.mp
 simp
theorem Rep.put {t:SetTable} {es:Array α} {M:Nat→Option α} (R:Rep t es M) {j:Nat} (hj:j≤t.mask) (h:M j = none) (x:α) :
  Rep (t.put j).1 (SetTable.insertAt es (t.put j).2 x) (setM M j x)∧(t.put j).1.mask = t.mask∧(t.put j).1.led = t.led∧(t.put j).1.plain = t.plain:=by
 obtain ⟨p,p',h1,h2,h3,h4⟩:=put_split (n:=t.mask+1) x (by omega) h
 have b:SetTable.below t.place j = (occ M j).length:=by rw [R.pl]; exact below_occ M (by omega)
 refine ⟨⟨?_,?_,?_⟩,rfl,rfl,rfl⟩
 ·show SetTable.insertAt t.place (SetTable.below t.place j) j = _
  rw [b,R.pl,h1,insertAt_list]
  show _ = (occ (setM M j x) (t.mask+1)).toArray
  rw [h3]
 ·show SetTable.insertAt es (SetTable.below t.place j) x = _
  rw [b,R.es,h2,occ_length,insertAt_list]
  show _ = (ent (setM M j x) (t.mask+1)).toArray
  rw [h4]
 ·show (if SetTable.has t.dummies j = true then _ else t.dummies) = #[]
  rw [R.dm,has_nil]; rfl
def lpN (mask h:Nat):Nat→Nat×Nat
 | 0=>(h % (mask+1),h)
 | n+1=>SetTable.leap mask (lpN mask h n).1 (lpN mask h n).2
theorem lpN_lt (mask h:Nat):∀ n,(lpN mask h n).1 < mask+1
 | 0=>Nat.mod_lt _ (by omega)
 | n+1=>Nat.mod_lt _ (by omega)
theorem lpN_pt (mask h:Nat):∀ n,(lpN mask h n).2 = h / 32 ^ n
 | 0=>by simp [lpN]
 | n+1=>by
  show (lpN mask h n).2 / 32 = _
  rw [lpN_pt mask h n,Nat.div_div_eq_div_mul,Nat.pow_succ]
def lcg (mask:Nat):Nat→Nat→Nat
 | 0,i=>i
 | n+1,i=>(lcg mask n i * 5+1) % (mask+1)
theorem lpN_far (mask h:Nat) (hh:h < 2 ^ 64):∀ m,(lpN mask h (13+m)).1 = lcg mask m (lpN mask h 13).1
 | 0=>rfl
 | m+1=>by
  show ((lpN mask h (13+m)).1 * 5+1+(lpN mask h (13+m)).2 / 32) % (mask+1) = (lcg mask m (lpN mask h 13).1 * 5+1) % (mask+1)
  have z:(lpN mask h (13+m)).2 = 0:=by
   rw [lpN_pt]
   refine Nat.div_eq_of_lt (Nat.lt_of_lt_of_le hh ?_)
   calc 2 ^ 64≤32 ^ 13:=by decide
    _≤32 ^ (13+m):=Nat.pow_le_pow_right (by decide) (by omega)
  rw [lpN_far mask h hh m,z]
theorem lcg_add (mask:Nat):∀ x y i,lcg mask (x+y) i = lcg mask x (lcg mask y i)
 | 0,y,i=>by rw [Nat.zero_add]; rfl
 | x+1,y,i=>by
  rw [show x+1+y = (x+y)+1 by omega]
  show (lcg mask (x+y) i * 5+1) % (mask+1) = (lcg mask x (lcg mask y i) * 5+1) % (mask+1)
  rw [lcg_add mask x y i]
def hits (mask:Nat):Nat→Nat→Nat→Nat
 | 0,_,acc=>acc
 | n+1,i,acc=>hits mask n ((i * 5+1) % (mask+1)) (acc ||| 2 ^ i)
theorem hits_spec (mask j:Nat):∀ n i acc,(hits mask n i acc).testBit j = true→acc.testBit j = true∨∃ k,k < n∧lcg mask k i = j
 | 0,_,_,h=>.inl h
 | n+1,i,acc,h=>by
  rcases hits_spec mask j n _ _ h with z | ⟨k,hk,e⟩
  ·rw [Nat.testBit_or,Bool.or_eq_true,Nat.testBit_two_pow] at z
   rcases z with z | z
   ·exact .inl z
   ·exact .inr ⟨0,by omega,show i = j by simpa using z⟩
  ·refine .inr ⟨k+1,by omega,?_⟩
   rw [lcg_add mask k 1 i]; exact e
def Full (mask:Nat):Prop:=hits mask (mask+1) 0 0 = 2 ^ (mask+1) - 1∧lcg mask (mask+1) 0 = 0
theorem full_all {mask:Nat} (h:Full mask):∀ i,i < mask+1→∀ j,j < mask+1→∃ m,m < mask+1∧lcg mask m i = j:=by
 have at0:∀ j,j < mask+1→∃ k,k < mask+1∧lcg mask k 0 = j:=fun j hj=>by
  have b:(hits mask (mask+1) 0 0).testBit j = true:=by rw [h.1,Nat.testBit_two_pow_sub_one]; simpa using hj
  rcases hits_spec mask j _ _ _ b with z | z
  ·simp at z
  ·exact z
 intro i hi j hj
 obtain ⟨a,ha,ea⟩:=at0 i hi
 obtain ⟨b,hb,eb⟩:=at0 j hj
 by_cases c:a≤b
 ·refine ⟨b - a,by omega,?_⟩
  rw [← ea,← lcg_add,show b - a+a = b by omega,eb]
 ·refine ⟨mask+1+b - a,by omega,?_⟩
  rw [← ea,← lcg_add,show mask+1+b - a+a = b+(mask+1) by omega,lcg_add,h.2,eb]
theorem full7:Full 7:=⟨by decide +kernel,by decide +kernel⟩
theorem full31:Full 31:=⟨by decide +kernel,by decide +kernel⟩
theorem full127:Full 127:=⟨by decide +kernel,by decide +kernel⟩
theorem full511:Full 511:=⟨by decide +kernel,by decide +kernel⟩
def Good (mask:Nat):Prop:=mask = 7∨mask = 31∨mask = 127∨mask = 511
theorem Good.full {mask:Nat} (h:Good mask):Full mask:=by
 rcases h with rfl | rfl | rfl | rfl
 ·exact full7
 ·exact full31
 ·exact full127
 ·exact full511
theorem cover {mask h j:Nat} (hm:Good mask) (hh:h < 2 ^ 64) (hj:j≤mask):∃ n,n≤mask+13∧(lpN mask h n).1 = j:=by
 obtain ⟨m,h1,h2⟩:=full_all hm.full _ (lpN_lt mask h 13) j (by omega)
 exact ⟨13+m,by omega,by rw [lpN_far mask h hh]; exact h2⟩
theorem runEnd_le {mask i:Nat} (h:i≤mask):i≤SetTable.runEnd mask i∧SetTable.runEnd mask i≤mask∧SetTable.runEnd mask i≤i+9:=by
 unfold SetTable.runEnd; split <;> omega
structure Way where
 n:Nat
 k:Nat
def Way.at (mask h:Nat) (w:Way):Nat:=(lpN mask h w.n).1+w.k
def Way.ok (mask h:Nat) (w:Way):Prop:=(lpN mask h w.n).1+w.k≤SetTable.runEnd mask (lpN mask h w.n).1
def Way.lt (a b:Way):Prop:=a.n < b.n∨(a.n = b.n∧a.k < b.k)
def Way.next (mask h:Nat) (w:Way):Way:=if (lpN mask h w.n).1+w.k < SetTable.runEnd mask (lpN mask h w.n).1 then ⟨w.n,w.k+1⟩ else ⟨w.n+1,0⟩
theorem Way.next_ok {mask h:Nat} {w:Way}:(w.next mask h).ok mask h:=by
 unfold Way.next Way.ok
 split
 ·show (lpN mask h w.n).1+(w.k+1)≤SetTable.runEnd mask (lpN mask h w.n).1; omega
 ·exact (runEnd_le (Nat.le_of_lt_succ (lpN_lt mask h _))).1
theorem Way.at_le {mask h:Nat} {w:Way} (o:w.ok mask h):w.at mask h≤mask:=by
 unfold Way.ok at o; unfold Way.at
 have:=(runEnd_le (Nat.le_of_lt_succ (lpN_lt mask h w.n))).2.1
 omega
theorem Way.lt_next {mask h:Nat} {a w:Way} (ha:a.ok mask h) (hlt:a.lt (w.next mask h)):a.lt w∨a = w:=by
 unfold Way.next at hlt
 unfold Way.ok at ha
 split at hlt
 ·rcases hlt with z | ⟨z1,z2⟩
  ·exact .inl (.inl z)
  ·have z1':a.n = w.n:=z1
   have z2':a.k < w.k+1:=z2
   by_cases e:a.k = w.k
   ·right; cases a; cases w; simp at z1' e; subst z1' e; rfl
   ·exact .inl (.inr ⟨z1',by omega⟩)
 ·rename_i hn
  rcases hlt with z | ⟨z1,z2⟩
  ·have z':a.n < w.n+1:=z
   by_cases e:a.n = w.n
   ·rw [e] at ha
    by_cases e2:a.k = w.k
    ·right; cases a; cases w; simp at e e2; subst e e2; rfl
    ·exact .inl (.inr ⟨e,by omega⟩)
   ·exact .inl (.inl (by omega))
  ·exact absurd z2 (Nat.not_lt_zero _)
def Way.probe (mask h:Nat) (w:Way):SetTable.Probe:=⟨w.at mask h,SetTable.runEnd mask (lpN mask h w.n).1 - (w.at mask h),(lpN mask h w.n).1,(lpN mask h w.n).2,none⟩
theorem probe_next {t:SetTable} {h:Nat} {w:Way} (o:w.ok t.mask h):t.advance (w.probe t.mask h) = (w.next t.mask h).probe t.mask h:=by
 unfold SetTable.advance Way.next
 unfold Way.ok at o
 by_cases c:(lpN t.mask h w.n).1+w.k < SetTable.runEnd t.mask (lpN t.mask h w.n).1
 ·rw [if_pos (by show SetTable.runEnd t.mask (lpN t.mask h w.n).1 - ((lpN t.mask h w.n).1+w.k) > 0; omega),if_pos c]
  unfold Way.probe Way.at
  simp only [SetTable.Probe.mk.injEq,and_true,true_and]
  omega
 ·rw [if_neg (by show ¬ SetTable.runEnd t.mask (lpN t.mask h w.n).1 - ((lpN t.mask h w.n).1+w.k) > 0; omega),if_neg c]
  rfl
theorem bits_lt (h:Int):SetTable.bits h < 2 ^ 64:=by
 unfold SetTable.bits; omega
theorem Way.tri (a b:Way):a.lt b∨a = b∨b.lt a:=by
 rcases Nat.lt_trichotomy a.n b.n with h | h | h
 ·exact .inl (.inl h)
 ·rcases Nat.lt_trichotomy a.k b.k with k | k | k
  ·exact .inl (.inr ⟨h,k⟩)
  ·right; left; cases a; cases b; simp at h k; subst h k; rfl
  ·exact .inr (.inr (.inr ⟨h.symm,k⟩))
 ·exact .inr (.inr (.inl h))
theorem Way.k_le {mask h:Nat} {w:Way} (o:w.ok mask h):w.k≤9:=by
 unfold Way.ok at o
 have:=(runEnd_le (Nat.le_of_lt_succ (lpN_lt mask h w.n))).2.2
 omega
def Way.upto (n0:Nat) (w:Way):Prop:=w.n < n0∨w = ⟨n0,0⟩
def Way.left (n0:Nat) (w:Way):Nat:=10 * (n0+1 - w.n) - w.k
theorem Way.upto_next {mask h n0:Nat} {w:Way} (u:w.upto n0) (hne:w ≠ ⟨n0,0⟩) (o:w.ok mask h):(w.next mask h).upto n0∧(w.next mask h).left n0 < w.left n0:=by
 have hn:w.n < n0:=by rcases u with z | z; exact z; exact absurd z hne
 have hk:=Way.k_le o
 unfold Way.next Way.upto Way.left
 split
 ·rename_i c
  refine ⟨.inl hn,?_⟩
  have hk2:w.k+1≤9:=by
   have:=(runEnd_le (Nat.le_of_lt_succ (lpN_lt mask h w.n))).2.2
   omega
  show 10 * (n0+1 - w.n) - (w.k+1) < 10 * (n0+1 - w.n) - w.k
  omega
 ·refine ⟨?_,?_⟩
  ·by_cases e:w.n+1 < n0
   ·exact .inl e
   ·right; rw [show w.n+1 = n0 by omega]
  ·show 10 * (n0+1 - (w.n+1)) - 0 < 10 * (n0+1 - w.n) - w.k
   omega
abbrev En (β:Type):=Int×β
def Reach {β:Type} (mask:Nat) (M:Nat→Option (En β)):Prop:=∀ j e,j≤mask→M j = some e→∃ w:Way,w.ok mask (SetTable.bits e.1)∧w.at mask (SetTable.bits e.1) = j∧∀ w':Way,w'.ok mask (SetTable.bits e.1)→w'.lt w→(M (w'.at mask (SetTable.bits e.1))).isSome = true
theorem probe_go {β:Type} {t:SetTable} {es:Array (En β)} {M:Nat→Option (En β)} (R:Rep t es M) {hashAt:Nat→Int} (hA:∀ i e,es[i]? = some e→hashAt i = e.1) {h:Int} {n0:Nat}
    (hz:M ((⟨n0,0⟩:Way).at t.mask (SetTable.bits h)) = none):∀ (fuel:Nat) (w:Way),w.ok t.mask (SetTable.bits h)→w.upto n0→w.left n0≤fuel →
    ∃ w2:Way,w2.ok t.mask (SetTable.bits h)∧w2.upto n0∧w2.left n0≤w.left n0∧(∀ w':Way,w'.ok t.mask (SetTable.bits h)→w'.lt w2→w'.lt w∨∃ e,M (w'.at t.mask (SetTable.bits h)) = some e∧e.1 ≠ h) ∧
      ((M (w2.at t.mask (SetTable.bits h)) = none∧SetTable.probe.go t hashAt h fuel (w.probe t.mask (SetTable.bits h)) = some (.empty (w2.at t.mask (SetTable.bits h)) none)) ∨
       ∃ e i,M (w2.at t.mask (SetTable.bits h)) = some e∧e.1 = h∧es[i]? = some e∧t.slot (w2.at t.mask (SetTable.bits h)) = .live i ∧
         SetTable.probe.go t hashAt h fuel (w.probe t.mask (SetTable.bits h)) = some (.candidate (w2.at t.mask (SetTable.bits h)) i ((w2.next t.mask (SetTable.bits h)).probe t.mask (SetTable.bits h))))
  | 0,w,o,u,hl=>by
    exfalso
    have hk:=Way.k_le o
    unfold Way.left at hl
    rcases u with z | z
    · omega
    · rw [z] at hl; simp at hl
  | fuel+1,w,o,u,hl=>by
    have hat:=Way.at_le o
    unfold SetTable.probe.go
    cases hM:M (w.at t.mask (SetTable.bits h)) with
    | none =>
      have hs:t.slot (w.probe t.mask (SetTable.bits h)).j = .empty:=R.slot_none hat hM
      refine ⟨w,o,u,Nat.le_refl _,fun w' _ l=>.inl l,.inl ⟨hM,?_⟩⟩
      rw [hs]; rfl
    | some e =>
      obtain ⟨hs,hi⟩:=R.slot_some hat hM
      have hs':t.slot (w.probe t.mask (SetTable.bits h)).j = .live (occ M (w.at t.mask (SetTable.bits h))).length:=hs
      rw [hs']
      dsimp only
      rw [hA _ _ hi]
      by_cases he:e.1 = h
      · refine ⟨w,o,u,Nat.le_refl _,fun w' _ l=>.inl l,.inr ⟨e,_,hM,he,hi,hs,?_⟩⟩
        rw [if_pos (by simp [he]),probe_next o]
        rfl
      · rw [if_neg (by simp [he]),probe_next o]
        have hne:w ≠ ⟨n0,0⟩:=fun q=>by rw [q,hz] at hM; cases hM
        obtain ⟨u2,l2⟩:=Way.upto_next u hne o
        obtain ⟨w2,a1,a2,a3,a4,a5⟩:=probe_go R hA hz fuel (w.next t.mask (SetTable.bits h)) Way.next_ok u2 (by omega)
        refine ⟨w2,a1,a2,by omega,fun w' o' l=>?_,a5⟩
        rcases a4 w' o' l with z | z
        · rcases Way.lt_next o' z with z | z
          · exact .inl z
          · right; rw [z]; exact ⟨e,hM,he⟩
        · exact .inr z
theorem empty_slot {M:Nat→Option α}:∀ n,(ent M n).length < n→∃ j,j < n∧M j = none
 | 0,h=>by omega
 | n+1,h=>by
  cases e:M n with
  | none=>exact ⟨n,by omega,e⟩
  | some x =>
   rw [ent_succ,e,List.length_append] at h
   simp at h
   obtain ⟨j,h1,h2⟩:=empty_slot n h
   exact ⟨j,by omega,h2⟩
def own (M:Nat→Option Nat) (mask:Nat):Array (Option Nat):=((List.range (mask+1)).map M).toArray
theorem own_get {M:Nat→Option Nat} {mask j:Nat} (d:Option Nat) (hj:j≤mask):(own M mask).getD j d = M j:=by
 unfold own
 rw [Array.getD_eq_getD_getElem?]
 simp [show j < mask+1 by omega]
theorem own_set {M:Nat→Option Nat} {mask j k:Nat} (hj:j≤mask):(own M mask).setIfInBounds j (some k) = own (setM M j k) mask:=by
 unfold own
 apply Array.toList_inj.mp
 simp only [Array.toList_setIfInBounds]
 apply List.ext_getElem?
 intro i
 rw [List.getElem?_set]
 by_cases h:j = i
 ·subst h
  simp [setM,show j < mask+1 by omega]
 ·rw [if_neg h]
  simp only [List.getElem?_map]
  by_cases hi:i < mask+1
  ·simp [hi,setM,Ne.symm h]
  ·simp [hi]
theorem free_spec {mask b n0:Nat} {M:Nat→Option Nat} (hz:M (lpN mask b n0).1 = none):∀ fuel n,n≤n0→n0 - n < fuel →
  ∃ w:Way,w.ok mask b∧n≤w.n∧SetTable.layClean.free mask (own M mask) fuel (lpN mask b n).1 (lpN mask b n).2 = some (w.at mask b)∧M (w.at mask b) = none∧∀ w':Way,w'.ok mask b→n≤w'.n→w'.lt w→(M (w'.at mask b)).isSome = true
 | 0,n,_,h=>by omega
 | fuel+1,n,hn,hf=>by
  have hi:=Nat.le_of_lt_succ (lpN_lt mask b n)
  have re:=runEnd_le hi
  unfold SetTable.layClean.free
  cases e:(List.range (SetTable.runEnd mask (lpN mask b n).1+1 - (lpN mask b n).1)).find? fun k=>((own M mask).getD ((lpN mask b n).1+k) (some 0)).isNone with
  | some k =>
   rw [List.find?_range_eq_some] at e
   obtain ⟨e1,e2,e3⟩:=e
   have e2':k < SetTable.runEnd mask (lpN mask b n).1+1 - (lpN mask b n).1:=by simpa using e2
   rw [own_get _ (by omega)] at e1
   refine ⟨⟨n,k⟩,by show _+k≤_; show (lpN mask b n).1+k≤SetTable.runEnd mask (lpN mask b n).1; omega,Nat.le_refl _,rfl,?_,fun w' o' hn' hl=>?_⟩
   ·cases q:M ((⟨n,k⟩:Way).at mask b) with
    | none=>rfl
    | some z =>
     have q':M ((lpN mask b n).1+k) = some z:=q
     rw [q'] at e1; simp at e1
   ·rcases hl with z | ⟨z1,z2⟩
    ·have z':w'.n < n:=z
     omega
    ·have z1':w'.n = n:=z1
     have z2':w'.k < k:=z2
     have q:=e3 w'.k z2'
     rw [own_get _ (by omega)] at q
     unfold Way.at
     rw [z1']
     cases q2:M ((lpN mask b n).1+w'.k) with
     | none=>rw [q2] at q; simp at q
     | some _=>rfl
  | none =>
   rw [List.find?_range_eq_none] at e
   have all:∀ k,(lpN mask b n).1+k≤SetTable.runEnd mask (lpN mask b n).1→(M ((lpN mask b n).1+k)).isSome = true:=fun k hk=>by
    have q:=e k (by omega)
    rw [own_get _ (by omega)] at q
    cases q2:M ((lpN mask b n).1+k) with
    | none=>rw [q2] at q; simp at q
    | some _=>rfl
   have hne:n ≠ n0:=fun q=>by
    have z:=all 0 (by omega)
    rw [Nat.add_zero,q,hz] at z; simp at z
   obtain ⟨w,a1,a2,a3,a4,a5⟩:=free_spec hz fuel (n+1) (by omega) (by omega)
   refine ⟨w,a1,by omega,a3,a4,fun w' o' hn' hl=>?_⟩
   by_cases q:w'.n = n
   ·unfold Way.ok at o'
    rw [q] at o'
    have:=all w'.k o'
    unfold Way.at
    rw [q]; exact this
   ·exact a5 w' o' (by omega) hl
structure Lay (mask:Nat) (hs:List Int) (M:Nat→Option Nat):Prop where
 cnt:(ent M (mask+1)).length = hs.length
 val:∀ j k,j≤mask→M j = some k→k < hs.length
 inj:∀ i j k,i≤mask→j≤mask→M i = some k→M j = some k→i = j
 way:∀ k h,hs[k]? = some h→∃ w:Way,w.ok mask (SetTable.bits h)∧M (w.at mask (SetTable.bits h)) = some k∧∀ w':Way,w'.ok mask (SetTable.bits h)→w'.lt w→(M (w'.at mask (SetTable.bits h))).isSome = true
theorem Lay.nil (mask:Nat):Lay mask [] (fun _=>none):=⟨by unfold ent; simp,fun _ _ _ h=>by simp at h,fun _ _ _ _ _ h=>by simp at h,fun k h e=>by simp at e⟩
theorem Lay.step {mask:Nat} (hm:Good mask) {hs:List Int} {M:Nat→Option Nat} (L:Lay mask hs M) (hlt:hs.length≤mask) (h:Int) :
  ∃ j M',SetTable.layClean.free mask (own M mask) (SetTable.turns mask) (SetTable.bits h % (mask+1)) (SetTable.bits h) = some j∧(own M mask).setIfInBounds j (some hs.length) = own M' mask∧Lay mask (hs++[h]) M':=by
 obtain ⟨j0,hj0,hz0⟩:=empty_slot (M:=M) (mask+1) (by rw [L.cnt]; omega)
 obtain ⟨n0,hn0,hc⟩:=cover hm (bits_lt h) (show j0≤mask by omega)
 obtain ⟨w,a1,a2,a3,a4,a5⟩:=free_spec (M:=M) (b:=SetTable.bits h) (n0:=n0) (by rw [hc]; exact hz0) (SetTable.turns mask) 0 (Nat.zero_le _) (by unfold SetTable.turns; omega)
 have hat:=Way.at_le a1
 have keep:∀ i,i ≠ w.at mask (SetTable.bits h)→setM M (w.at mask (SetTable.bits h)) hs.length i = M i:=fun i hi=>by unfold setM; rw [if_neg hi]
 have here:setM M (w.at mask (SetTable.bits h)) hs.length (w.at mask (SetTable.bits h)) = some hs.length:=by unfold setM; rw [if_pos rfl]
 have more:∀ i,(M i).isSome = true→(setM M (w.at mask (SetTable.bits h)) hs.length i).isSome = true:=fun i hi=>by
  by_cases e:i = w.at mask (SetTable.bits h)
  ·rw [e,here]; rfl
  ·rw [keep i e]; exact hi
 refine ⟨w.at mask (SetTable.bits h),setM M (w.at mask (SetTable.bits h)) hs.length,a3,own_set hat,⟨?_,?_,?_,?_⟩⟩
 ·obtain ⟨p,p',h1,h2,h3,h4⟩:=put_split (n:=mask+1) hs.length (show w.at mask (SetTable.bits h) < mask+1 by omega) a4
  have c:=L.cnt
  rw [h2] at c
  rw [h4]
  simp at c ⊢; omega
 ·intro i k hi e
  rw [List.length_append]
  by_cases q:i = w.at mask (SetTable.bits h)
  ·rw [q,here] at e; cases e; simp
  ·rw [keep i q] at e; have:=L.val i k hi e; simp; omega
 ·intro i j k hi hj e1 e2
  by_cases q1:i = w.at mask (SetTable.bits h)
  ·by_cases q2:j = w.at mask (SetTable.bits h)
   ·rw [q1,q2]
   ·rw [q1,here] at e1; cases e1
    rw [keep j q2] at e2
    have:=L.val j _ hj e2
    omega
  ·rw [keep i q1] at e1
   by_cases q2:j = w.at mask (SetTable.bits h)
   ·rw [q2,here] at e2; cases e2
    have:=L.val i _ hi e1
    omega
   ·rw [keep j q2] at e2
    exact L.inj i j k hi hj e1 e2
 ·intro k g e
  by_cases q:k < hs.length
  ·rw [List.getElem?_append_left q] at e
   obtain ⟨w1,b1,b2,b3⟩:=L.way k g e
   refine ⟨w1,b1,?_,fun w' o' l'=>more _ (b3 w' o' l')⟩
   rw [keep _ fun z=>by rw [z,a4] at b2; cases b2]
   exact b2
  ·have hk:k = hs.length:=by
    have:=(List.getElem?_eq_some_iff.mp e).1
    rw [List.length_append] at this; simp at this; omega
   subst hk
   rw [List.getElem?_append_right (Nat.le_refl _),Nat.sub_self] at e
   simp at e; subst e
   exact ⟨w,a1,here,fun w' o' l'=>more _ (a5 w' o' (Nat.zero_le _) l')⟩
theorem lay_fold {mask:Nat} (hm:Good mask):∀ (rs hs:List Int) (M:Nat→Option Nat),Lay mask hs M→hs.length+rs.length≤mask+1 →
  ∃ M',rs.foldl (init:=some (own M mask,hs.length)) (fun acc h=>do
   let (owner,k) ← acc
   let j ← SetTable.layClean.free mask owner (SetTable.turns mask) (SetTable.bits h % (mask+1)) (SetTable.bits h)
   pure (owner.setIfInBounds j (some k),k+1)) = some (own M' mask,hs.length+rs.length)∧Lay mask (hs++rs) M'
 | [],hs,M,L,_=>⟨M,by simp,by simpa using L⟩
 | h :: rs,hs,M,L,hl=>by
  simp at hl
  obtain ⟨j,M1,e1,e2,L1⟩:=L.step hm (by omega) h
  obtain ⟨M',e3,L'⟩:=lay_fold hm rs (hs++[h]) M1 L1 (by simp; omega)
  refine ⟨M',?_,by simpa using L'⟩
  rw [List.foldl_cons]
  simp only [Option.bind_eq_bind,Option.bind_some,e1,e2]
  simp only [List.length_append,List.length_cons,List.length_nil] at e3 ⊢
  rw [show hs.length+(rs.length+1) = hs.length+(0+1)+rs.length by omega]
  exact e3
theorem own_none (mask:Nat):own (fun _=>none) mask = Array.replicate (mask+1) none:=by
 unfold own
 apply Array.toList_inj.mp
 rw [Array.toList_replicate]
 apply List.ext_getElem?
 intro i
 simp only [List.getElem?_map,List.getElem?_replicate]
 by_cases h:i < mask+1
 ·simp [h]
 ·simp [h]
theorem laid_spec {β:Type} {mask:Nat} (hm:Good mask) (es:Array (En β)) (hl:es.size≤mask) (finger moves:Nat) (led plain:Bool) :
  ∃ t' order M',SetTable.laid mask finger moves led plain (es.map (·.1)) = some (t',order)∧t'.mask = mask∧t'.led = led∧t'.plain = plain∧Rep t' (order.filterMap (es[·]?)) M'∧Reach mask M'∧(order.filterMap (es[·]?)).toList.Perm es.toList:=by
 obtain ⟨M,e1,L⟩:=lay_fold hm (es.map (·.1)).toList [] (fun _=>none) (Lay.nil mask) (by simp; omega)
 simp only [List.nil_append] at L
 have hlen:(es.map (·.1)).toList.length = es.size:=by simp
 have e2:SetTable.layClean mask (es.map (·.1)) = some (own M mask):=by
  unfold SetTable.layClean
  rw [← own_none,← Array.foldl_toList]
  rw [show (0:Nat) = ([]:List Int).length from rfl,e1]
  rfl
 have lv:((List.range (mask+1)).filterMap fun j=>((own M mask).getD j none).map (j,·)) = (List.range (mask+1)).filterMap fun j=>(M j).map (j,·):=by
  have go:∀ n,n≤mask+1→((List.range n).filterMap fun j=>((own M mask).getD j none).map (j,·)) = (List.range n).filterMap fun j=>(M j).map (j,·):=by
   intro n
   induction n with
   | zero=>intro _; rfl
   | succ n ih =>
    intro hn
    rw [List.range_succ,List.filterMap_append,List.filterMap_append,ih (by omega)]
    simp only [List.filterMap_cons,List.filterMap_nil]
    rw [own_get none (show n≤mask by omega)]
  exact go _ (Nat.le_refl _)
 have f1:((List.range (mask+1)).filterMap fun j=>(M j).map (j,·)).map (·.1) = occ M (mask+1):=by
  have go:∀ n,((List.range n).filterMap fun j=>(M j).map (j,·)).map (·.1) = occ M n:=by
   intro n
   induction n with
   | zero=>rfl
   | succ n ih =>
    rw [List.range_succ,List.filterMap_append,List.map_append,ih,occ_succ]
    cases e:M n <;> simp [e]
  exact go _
 have f2:((List.range (mask+1)).filterMap fun j=>(M j).map (j,·)).map (·.2) = ent M (mask+1):=by
  have go:∀ n,((List.range n).filterMap fun j=>(M j).map (j,·)).map (·.2) = ent M n:=by
   intro n
   induction n with
   | zero=>rfl
   | succ n ih =>
    rw [List.range_succ,List.filterMap_append,List.map_append,ih,ent_succ]
    cases e:M n <;> simp [e]
  exact go _
 refine ⟨⟨mask,(occ M (mask+1)).toArray,#[],finger,led,moves,plain⟩,(ent M (mask+1)).toArray,fun j=>(M j).bind (es[·]?),?_,rfl,rfl,rfl,?_,?_,?_⟩
 ·unfold SetTable.laid
  rw [e2]
  simp only [Option.bind_eq_bind,Option.bind_some]
  rw [lv,f1,f2]
  rfl
 ·have vv:∀ j,j < mask+1→((M j).bind (es[·]?)).isSome = (M j).isSome:=fun j hj=>by
   cases e:M j with
   | none=>rfl
   | some k =>
    have:=L.val j k (by omega) e
    rw [hlen] at this
    simp [this]
  refine ⟨?_,?_,rfl⟩
  ·show (occ M (mask+1)).toArray = (occ (fun j=>(M j).bind (es[·]?)) (mask+1)).toArray
   unfold occ
   rw [List.filter_congr fun j hj=>(vv j (by simpa using hj)).symm]
  ·show ((ent M (mask+1)).toArray).filterMap (es[·]?) = (ent (fun j=>(M j).bind (es[·]?)) (mask+1)).toArray
   unfold ent
   rw [List.filterMap_toArray,List.filterMap_filterMap]
 ·intro j e hj he
  have he:(M j).bind (es[·]?) = some e:=he
  cases q:M j with
  | none=>rw [q] at he; cases he
  | some k =>
   rw [q] at he
   have he':es[k]? = some e:=he
   have hk:(es.map (·.1)).toList[k]? = some e.1:=by simp [he']
   obtain ⟨w,a1,a2,a3⟩:=L.way k e.1 hk
   have at_eq:w.at mask (SetTable.bits e.1) = j:=L.inj _ _ k (Way.at_le a1) hj a2 q
   refine ⟨w,a1,at_eq,fun w' o' l'=>?_⟩
   have z:=a3 w' o' l'
   cases q2:M (w'.at mask (SetTable.bits e.1)) with
   | none=>rw [q2] at z; simp at z
   | some k' =>
    have:=L.val _ _ (Way.at_le o') q2
    rw [hlen] at this
    show ((M (w'.at mask (SetTable.bits e.1))).bind (es[·]?)).isSome = true
    rw [q2]
    simp [this]
 ·have perm:(ent M (mask+1)).Perm (List.range es.size):=by
   have nd:(ent M (mask+1)).Nodup:=by
    have go:∀ n,n≤mask+1→(ent M n).Nodup∧∀ k ∈ ent M n,∃ j,j < n∧M j = some k:=by
     intro n
     induction n with
     | zero=>intro _; exact ⟨List.nodup_nil,fun k hk=>by simp [ent] at hk⟩
     | succ n ih =>
      intro hn
      obtain ⟨i1,i2⟩:=ih (by omega)
      rw [ent_succ]
      cases e:M n with
      | none =>
       simp only [Option.toList_none,List.append_nil]
       exact ⟨i1,fun k hk=>let ⟨j,a,b⟩:=i2 k hk; ⟨j,by omega,b⟩⟩
      | some k0 =>
       refine ⟨?_,fun k hk=>?_⟩
       ·rw [List.nodup_append]
        refine ⟨i1,by simp,fun a ha b hb hab=>?_⟩
        simp at hb
        obtain ⟨j,hj,hM⟩:=i2 a ha
        rw [hab,hb] at hM
        have:=L.inj j n k0 (by omega) (by omega) hM e
        omega
       ·rcases List.mem_append.mp hk with hk | hk
        ·obtain ⟨j,a,b⟩:=i2 k hk; exact ⟨j,by omega,b⟩
        ·simp at hk; exact ⟨n,by omega,by rw [e,hk]⟩
    exact (go _ (Nat.le_refl _)).1
   refine (List.perm_ext_iff_of_nodup nd List.nodup_range).mpr fun k=>?_
   rw [List.mem_range]
   unfold ent
   rw [List.mem_filterMap]
   constructor
   ·rintro ⟨j,hj,e⟩
    have:=L.val j k (by simp at hj; omega) e
    rwa [hlen] at this
   ·intro hk
    obtain ⟨w,a1,a2,_⟩:=L.way k (es.map (·.1)).toList[k] (List.getElem?_eq_getElem (by rw [hlen]; exact hk))
    exact ⟨_,List.mem_range.mpr (Nat.lt_succ_of_le (Way.at_le a1)),a2⟩
  have p2:=perm.filterMap (es[·]?)
  have e3:(List.range es.size).filterMap (es[·]?) = es.toList:=by
   have go:∀ n,n≤es.size→(List.range n).filterMap (es[·]?) = es.toList.take n:=by
    intro n
    induction n with
    | zero=>intro _; rfl
    | succ n ih =>
     intro hn
     rw [List.range_succ,List.filterMap_append,ih (by omega),List.take_add_one]
     congr 1
     have:n < es.size:=by omega
     simp [this]
   rw [go _ (Nat.le_refl _)]
   have:es.toList.length = es.size:=by simp
   rw [← this,List.take_length]
  rw [e3] at p2
  simpa using p2
theorem left_start {n0 mask:Nat} (h:n0≤mask+13) {w:Way}:w.left n0≤10 * SetTable.turns mask:=by
 unfold Way.left SetTable.turns; omega
end STab
namespace STab
open PySem
section
variable {prog:Program} {w:World} {A:Around} {E:Value→Shared→Prop}
abbrev TK (prog:Program) (w:World):HeapKind prog w (List Int):=tupleKind (intKind prog w)
def Tups (prog:Program) (w:World) (h:Heap) (es:List (En Value)):Prop:=∀ e ∈ es,∃ ks b,e.2 = .ref b∧(TK prog w).is h ks b∧e.1 = (TK prog w).hash ks
structure Tab (prog:Program) (w:World) (h:Heap) (a:Addr) (es:Array (En Value)) (ep:Nat) (t:SetTable) (M:Nat→Option (En Value)):Prop where
 ob:∃ o,h.get? a = some o∧o.ExactSet∧o.data = .set es ep t
 rep:Rep t es M
 rch:Reach t.mask M
 good:Good t.mask
 room:es.size * 5 < t.mask * 3
 pln:t.plain = true
 led:t.led = !(w.params.followText "set-order")
 tup:Tups prog w h es.toList
theorem Tab.fits {h:Heap} {a:Addr} {es:Array (En Value)} {ep:Nat} {t:SetTable} {M:Nat→Option (En Value)} (T:Tab prog w h a es ep t M):t.fits es.size = true:=by
 unfold SetTable.fits SetTable.fill
 have:=T.room
 rw [T.rep.size,T.rep.dm]
 simp; omega
theorem Tab.empty {h:Heap} {a:Addr} {es:Array (En Value)} {ep:Nat} {t:SetTable} {M:Nat→Option (En Value)} (T:Tab prog w h a es ep t M) (hh:Int):∃ n0,n0≤t.mask+13∧M ((⟨n0,0⟩:Way).at t.mask (SetTable.bits hh)) = none:=by
 have hs:(ent M (t.mask+1)).length = es.size:=by rw [T.rep.es]; simp
 obtain ⟨j,hj,hz⟩:=empty_slot (M:=M) (t.mask+1) (by rw [hs]; have:=T.room; omega)
 obtain ⟨n0,h1,h2⟩:=cover T.good (bits_lt hh) (show j≤t.mask by omega)
 exact ⟨n0,h1,by show M ((lpN t.mask (SetTable.bits hh) n0).1+0) = none; rw [Nat.add_zero,h2]; exact hz⟩
theorem ints_of {ks:List Int} {vs:List Value} (h:ItemsAre (intKind prog w) ks vs):∀ v ∈ vs,∃ i u,v = Value.int i u:=by
 induction h with
 | nil=>intro v hv; simp at hv
 | cons hk _ ih =>
  intro v hv
  rcases List.mem_cons.mp hv with rfl | hv
  ·obtain ⟨t,e⟩:=Value.isInt_shape hk
   exact ⟨_,t,e⟩
  ·exact ih v hv
theorem ofClass_tuple {s:Shared} {ks:List Int} {b:Addr} {Q:Bool→Shared→Prop} (hk:(TK prog w).is s.heap ks b) (h:Q false s):wpAny (model prog w) A (ofAClassStatement 8 (.ref b)) Q E s:=by
 obtain ⟨o,items,n,ho,hc,hd,hi⟩:=hk
 unfold ofAClassStatement
 refine wpAny_bind (wpAny_typeOf (⟨o,ho,hc⟩:s.TypeIs (.ref b) "tuple") ?_)
 dsimp only
 rw [if_pos (by decide)]
 refine wpAny_bind (wpAny_pure ?_)
 simp only [Bool.not_true,Bool.false_eq_true,if_false]
 refine wpAny_bind (wpAny_seqItems ho hd ?_)
 dsimp only
 refine wpAny_bind ?_
 rw [← Array.forIn_toList]
 refine wpAny_forIn_list _ (fun rest r s'=>r.1 = none∧s' = s∧∀ v ∈ rest,∃ i u,v = Value.int i u) _ ?_ ?_ _ _ ⟨rfl,rfl,ints_of hi⟩
 ·rintro v rest r s' ⟨hr,rfl,hall⟩
  obtain ⟨i,u,rfl⟩:=hall v List.mem_cons_self
  rw [show ofAClassStatement 7 (Value.int i u) = pure false from rfl]
  refine wpAny_bind (wpAny_pure ?_)
  rw [if_neg Bool.false_ne_true]
  exact wpAny_pure ⟨rfl,rfl,fun v hv=>hall v (List.mem_cons_of_mem _ hv)⟩
 ·rintro ⟨r1,r2⟩ s' ⟨hr,rfl,_⟩
  simp only at hr
  subst hr
  exact wpAny_pure h
theorem byVal_tuple {s:Shared} {ks:List Int} {b:Addr} {Q:Bool→Shared→Prop} (hk:(TK prog w).is s.heap ks b) (h:Q true s):wpAny (model prog w) A (hashByValue 8 (.ref b)) Q E s:=by
 obtain ⟨o,items,n,ho,hc,hd,hi⟩:=hk
 unfold hashByValue
 refine wpAny_bind (wpAny_specialOf (⟨o,ho,hc⟩:s.TypeIs (.ref b) "tuple") F.slot_tuple_hash.lookup ?_)
 dsimp only
 refine wpAny_bind (wpAny_seqItems ho hd ?_)
 rw [Option.getD_some]
 refine wpAny_bind ?_
 rw [← Array.forIn_toList]
 refine wpAny_forIn_list _ (fun rest r s'=>r.1 = none∧s' = s∧∀ v ∈ rest,∃ i u,v = Value.int i u) _ ?_ ?_ _ _ ⟨rfl,rfl,ints_of hi⟩
 ·rintro v rest r s' ⟨hr,rfl,hall⟩
  obtain ⟨i,u,rfl⟩:=hall v List.mem_cons_self
  rw [show hashByValue 7 (Value.int i u) = pure true from rfl]
  refine wpAny_bind (wpAny_pure ?_)
  simp only [Bool.not_true,Bool.false_eq_true,if_false]
  exact wpAny_pure ⟨rfl,rfl,fun v hv=>hall v (List.mem_cons_of_mem _ hv)⟩
 ·rintro ⟨r1,r2⟩ s' ⟨hr,rfl,_⟩
  simp only at hr
  subst hr
  exact wpAny_pure h
theorem unseen {s:Shared} {ks:List Int} {b:Addr} {ys:List Value} {Q:Bool→Shared→Prop} (hk:(TK prog w).is s.heap ks b) (hy:∀ y ∈ ys,∃ ks' b',y = Value.ref b'∧(TK prog w).is s.heap ks' b') (h:Q false s) :
  wpAny (model prog w) A (searchCouldBeSeen (.ref b) ys) Q E s:=by
 unfold searchCouldBeSeen
 refine wpAny_bind ?_
 refine wpAny_forIn_list _ (fun rest r s'=>r.1 = none∧s' = s∧∀ y ∈ rest,∃ ks' b',y = Value.ref b'∧(TK prog w).is s.heap ks' b') _ ?_ ?_ _ _ ⟨rfl,rfl,hy⟩
 ·rintro v rest r s' ⟨hr,rfl,hall⟩
  obtain ⟨ks',b',rfl,hk'⟩:=hall v List.mem_cons_self
  have tl:∀ y ∈ rest,∃ ks' b',y = Value.ref b'∧(TK prog w).is s'.heap ks' b':=fun y hy=>hall y (List.mem_cons_of_mem _ hy)
  dsimp only
  refine wpAny_ite ?_
  split
  ·exact wpAny_pure ⟨rfl,rfl,tl⟩
  ·refine wpAny_bind ((TK prog w).quiet hk ?_)
   simp only [Bool.not_true,Bool.false_eq_true,if_false]
   refine wpAny_bind ((TK prog w).quiet hk' ?_)
   simp only [Bool.not_true,Bool.false_eq_true,if_false]
   refine wpAny_bind (ofClass_tuple hk ?_)
   simp only [Bool.false_eq_true,if_false]
   refine wpAny_bind (ofClass_tuple hk' ?_)
   simp only [Bool.false_eq_true,if_false]
   exact wpAny_pure ⟨rfl,rfl,tl⟩
 ·rintro ⟨r1,r2⟩ s' ⟨hr,rfl,_⟩
  simp only at hr
  subst hr
  exact wpAny_pure h
theorem Tab.odd {h:Heap} {a:Addr} {es:Array (En Value)} {ep:Nat} {t:SetTable} {M:Nat→Option (En Value)} (T:Tab prog w h a es ep t M):t.gaveWay = false:=by
 unfold SetTable.gaveWay
 rcases T.good with e | e | e | e <;> rw [e] <;> rfl
theorem search_ok {s:Shared} {a b:Addr} {es:Array (En Value)} {ep:Nat} {t:SetTable} {M:Nat→Option (En Value)} (T:Tab prog w s.heap a es ep t M) {ks:List Int} (hk:(TK prog w).is s.heap ks b) (hr:(TK prog w).room A) {n0:Nat}
  (hz:M ((⟨n0,0⟩:Way).at t.mask (SetTable.bits ((TK prog w).hash ks))) = none) (hn:n0≤t.mask+13) {Q:SetFound→Shared→Prop}
  (there:(∃ e ∈ es.toList,∃ b',e.2 = Value.ref b'∧(TK prog w).is s.heap ks b')→Q (.there none) s)
  (free:∀ w2:Way,w2.ok t.mask (SetTable.bits ((TK prog w).hash ks))→M (w2.at t.mask (SetTable.bits ((TK prog w).hash ks))) = none →
   (∀ w':Way,w'.ok t.mask (SetTable.bits ((TK prog w).hash ks))→w'.lt w2→(M (w'.at t.mask (SetTable.bits ((TK prog w).hash ks)))).isSome = true) →
   (∀ e ∈ es.toList,∀ b',e.2 = Value.ref b'→¬ (TK prog w).is s.heap ks b')→Q (.free (w2.at t.mask (SetTable.bits ((TK prog w).hash ks))) false) s) :
  ∀ (fuel:Nat) (wy:Way) (stand:Option SetTable.Probe),stand.getD (t.probeStart ((TK prog w).hash ks)) = wy.probe t.mask (SetTable.bits ((TK prog w).hash ks))→wy.ok t.mask (SetTable.bits ((TK prog w).hash ks))→wy.upto n0→wy.left n0 < fuel →
   (∀ w':Way,w'.ok t.mask (SetTable.bits ((TK prog w).hash ks))→w'.lt wy→∃ e,M (w'.at t.mask (SetTable.bits ((TK prog w).hash ks))) = some e∧∀ b',e.2 = Value.ref b'→¬ (TK prog w).is s.heap ks b') →
   wpAny (model prog w) A (setSearchFrom a (.ref b) ((TK prog w).hash ks) true fuel stand) Q E s
 | 0,_,_,_,_,_,hl,_=>by omega
 | fuel+1,wy,stand,hst,o,u,hl,hpast=>by
  obtain ⟨ob,ho,_,hd⟩:=T.ob
  have memM:∀ {j:Nat} {e:En Value},j≤t.mask→M j = some e→e ∈ es.toList:=fun {j e} hj he=>by
   obtain ⟨_,hi⟩:=T.rep.slot_some hj he
   have:=Array.mem_of_getElem? hi
   simpa using this
  unfold setSearchFrom
  refine wpAny_bind (wpAny_setState_of ho hd T.fits ?_)
  dsimp only
  rw [T.odd]
  simp only [Bool.false_eq_true,if_false]
  rw [hst]
  obtain ⟨w2,a1,a2,a3,a4,a5⟩:=probe_go T.rep (hashAt:=fun i=>(es[i]?.map (·.1)).getD 0) (fun i e he=>by simp [he]) hz (10 * SetTable.turns t.mask) wy o u (left_start hn)
  have past2:∀ w':Way,w'.ok t.mask (SetTable.bits ((TK prog w).hash ks))→w'.lt w2→∃ e,M (w'.at t.mask (SetTable.bits ((TK prog w).hash ks))) = some e∧∀ b',e.2 = Value.ref b'→¬ (TK prog w).is s.heap ks b':=fun w' o' l'=>by
   rcases a4 w' o' l' with z | ⟨e,z1,z2⟩
   ·exact hpast w' o' z
   ·refine ⟨e,z1,fun b' eb hb=>z2 ?_⟩
    obtain ⟨ks',b2,e2,hk2,hh⟩:=T.tup e (memM (Way.at_le o') z1)
    rw [eb] at e2; cases e2
    rw [hh,(TK prog w).inj hk2 hb]
  generalize hpv:t.probe _ ((TK prog w).hash ks) (wy.probe t.mask (SetTable.bits ((TK prog w).hash ks))) = r
  rcases a5 with ⟨hM,hp⟩ | ⟨e,i,hM,he,hi,hs,hp⟩
  ·obtain rfl:r = some (.empty (w2.at t.mask (SetTable.bits ((TK prog w).hash ks))) none):=hpv.symm.trans hp
   dsimp only
   refine wpAny_pure (free w2 a1 hM (fun w' o' l'=>?_) fun e' he' b' eb hb=>?_)
   ·obtain ⟨e',z,_⟩:=past2 w' o' l'
    rw [z]; rfl
   ·-- e' stands somewhere,and its way comes by here
    rw [T.rep.es] at he'
    have he2:e' ∈ ent M (t.mask+1):=by simpa using he'
    obtain ⟨j,hj,hMj⟩:=List.mem_filterMap.mp he2
    have hj':j≤t.mask:=Nat.le_of_lt_succ (List.mem_range.mp hj)
    have eh:e'.1 = (TK prog w).hash ks:=by
     obtain ⟨ks',b2,e2,hk2,hh⟩:=T.tup e' (memM hj' hMj)
     rw [eb] at e2; cases e2
     rw [hh,(TK prog w).inj hk2 hb]
    obtain ⟨w3,c1,c2,c3⟩:=T.rch j e' hj' hMj
    rw [eh] at c1 c2 c3
    rcases Way.tri w3 w2 with z | z | z
    ·obtain ⟨e3,z1,z2⟩:=past2 w3 c1 z
     rw [c2,hMj] at z1; cases z1
     exact z2 b' eb hb
    ·rw [z] at c2; rw [c2,hMj] at hM; cases hM
    ·have:=c3 w2 a1 z
     rw [hM] at this; simp at this
  ·obtain rfl:r = some (.candidate (w2.at t.mask (SetTable.bits ((TK prog w).hash ks))) i ((w2.next t.mask (SetTable.bits ((TK prog w).hash ks))).probe t.mask (SetTable.bits ((TK prog w).hash ks)))):=hpv.symm.trans hp
   dsimp only
   obtain ⟨ks',b',e2,hk2,hh⟩:=T.tup e (memM (Way.at_le a1) hM)
   have hne:w2 ≠ ⟨n0,0⟩:=fun q=>by rw [q,hz] at hM; cases hM
   obtain ⟨u2,l2⟩:=Way.upto_next a2 hne a1
   have main:wpAny (model prog w) A (match es[i]? with
       | some (fst,y)=>do
        let equal ← holding [y] (eqBool y (Value.ref b))
        let __x ← setState a
        if (true && equal) = true then pure (SetFound.there none)
         else
          match __x.2.snd.sameMemory t.moves t.mask with
          | some same =>
           match if same = true then __x.2.snd.slot (w2.at t.mask (SetTable.bits ((TK prog w).hash ks))) else SetTable.Slot.empty with
           | SetTable.Slot.live i' =>
            match __x.fst[i']? with
            | some (fst,y')=>do
             let __do_lift ← isSame y' y
             let still ← pure (if __do_lift = true then some i' else none)
             match still with
              | none=>do
               rule "set.search.anew"
               setSearchFrom a (Value.ref b) ((TK prog w).hash ks) true fuel none
              | some i' =>
               if equal = true then pure (SetFound.there (some i'))
               else setSearchFrom a (Value.ref b) ((TK prog w).hash ks) true fuel (some ((w2.next t.mask (SetTable.bits ((TK prog w).hash ks))).probe t.mask (SetTable.bits ((TK prog w).hash ks))))
            | none=>do
             let still ← pure none
             match still with
              | none=>do
               rule "set.search.anew"
               setSearchFrom a (Value.ref b) ((TK prog w).hash ks) true fuel none
              | some i' =>
               if equal = true then pure (SetFound.there (some i'))
               else setSearchFrom a (Value.ref b) ((TK prog w).hash ks) true fuel (some ((w2.next t.mask (SetTable.bits ((TK prog w).hash ks))).probe t.mask (SetTable.bits ((TK prog w).hash ks))))
           | x=>do
            let still ← pure none
            match still with
             | none=>do
              rule "set.search.anew"
              setSearchFrom a (Value.ref b) ((TK prog w).hash ks) true fuel none
             | some i' =>
              if equal = true then pure (SetFound.there (some i'))
              else setSearchFrom a (Value.ref b) ((TK prog w).hash ks) true fuel (some ((w2.next t.mask (SetTable.bits ((TK prog w).hash ks))).probe t.mask (SetTable.bits ((TK prog w).hash ks))))
          | x=>unsupported "set.changed-during-lookup:is-the-new-block-at-the-old-address"
       | x=>unsupported "internal:set-entry") Q E s:=by
    rw [hi]
    obtain ⟨eh,ev⟩:=e
    have ev':ev = Value.ref b':=e2
    subst ev'
    dsimp only
    refine wpAny_bind (wpAny_holding ((TK prog w).eqBool hr hk2 hk ?_))
    refine wpAny_bind (wpAny_setState_of ho hd T.fits ?_)
    dsimp only
    by_cases q:ks' = ks
    ·rw [decide_eq_true q]
     rw [if_pos (by rfl)]
     subst q
     exact wpAny_pure (there ⟨_,memM (Way.at_le a1) hM,b',rfl,hk2⟩)
    ·rw [decide_eq_false q]
     rw [if_neg (by simp)]
     have sm:t.sameMemory t.moves t.mask = some true:=by unfold SetTable.sameMemory; simp
     rw [sm]
     dsimp only
     rw [if_pos rfl,hs]
     dsimp only
     rw [hi]
     dsimp only
     refine wpAny_bind (wpAny_isSame_ref_self ?_)
     rw [if_pos rfl]
     refine wpAny_bind (wpAny_pure ?_)
     dsimp only
     rw [if_neg Bool.false_ne_true]
     refine search_ok T hk hr hz hn there free fuel (w2.next t.mask (SetTable.bits ((TK prog w).hash ks))) _ rfl Way.next_ok u2 (by omega) fun w' o' l'=>?_
     rcases Way.lt_next o' l' with z | z
     ·exact past2 w' o' z
     ·rw [z]
      exact ⟨_,hM,fun b2 eb hb=>by cases eb; exact q ((TK prog w).inj hk2 hb)⟩
   cases hled:t.led with
   | true =>
    simp only [Bool.not_true,Bool.false_eq_true,if_false]
    exact main
   | false =>
    simp only [Bool.not_false,if_true]
    refine wpAny_bind (unseen hk (fun y hy=>?_) ?_)
    ·obtain ⟨e',he',ey⟩:=List.mem_map.mp hy
     have he'':e' ∈ es.toList:=by
      have:=(Array.mem_filter.mp (by simpa using he':e' ∈ Array.filter (fun x=>x.fst == (TK prog w).hash ks) es)).1
      simpa using this
     obtain ⟨ks3,b3,e3,hk3,_⟩:=T.tup e' he''
     exact ⟨ks3,b3,by rw [← ey,e3],hk3⟩
    ·rw [if_neg Bool.false_ne_true]
     exact main
theorem is_at {h h':Heap} {a b:Addr} {ks:List Int} {o:Obj} {es:Array (En Value)} {ep:Nat} {t:SetTable} (hk:(TK prog w).is h ks b) (ho:h.get? a = some o) (hd:o.data = .set es ep t) (sb:Heap.SameBut a h h'):(TK prog w).is h' ks b:=by
 obtain ⟨ob,items,n,e,hc,hd',hi⟩:=hk
 have ne:b ≠ a:=fun q=>by subst q; rw [ho] at e; cases e; rw [hd] at hd'; cases hd'
 exact ⟨ob,items,n,(sb.2 b ne).trans e,hc,hd',hi⟩
theorem insertAt_perm {β:Type} (xs:Array β) (p:Nat) (hp:p≤xs.size) (x:β):(SetTable.insertAt xs p x).toList.Perm (x :: xs.toList):=by
 unfold SetTable.insertAt
 have e:xs.toList = xs.toList.take p++xs.toList.drop p:=(List.take_append_drop _ _).symm
 have h1:((xs.extract 0 p).push x++xs.extract p xs.size).toList = xs.toList.take p++x :: xs.toList.drop p:=by
  simp [Array.toList_extract]
  rw [List.take_of_length_le (by simp)]
 rw [h1]
 refine List.perm_middle.trans ?_
 rw [List.take_append_drop]
theorem insertAt_size {β:Type} (xs:Array β) (p:Nat) (hp:p≤xs.size) (x:β):(SetTable.insertAt xs p x).size = xs.size+1:=by
 have:=(insertAt_perm xs p hp x).length_eq
 simpa using this
theorem add_ok {s:Shared} {a b:Addr} {es:Array (En Value)} {ep:Nat} {t:SetTable} {M:Nat→Option (En Value)} (T:Tab prog w s.heap a es ep t M) (hs:es.size≤144) {ks:List Int} (hk:(TK prog w).is s.heap ks b) (hr:(TK prog w).room A)
  {Q:Bool→Shared→Prop} (hold:(∃ e ∈ es.toList,∃ b',e.2 = Value.ref b'∧(TK prog w).is s.heap ks b')→Q false s)
  (hnew:∀ h' es' ep' t' M',Heap.SameBut a s.heap h'→Tab prog w h' a es' ep' t' M'→es'.toList.Perm (((TK prog w).hash ks,Value.ref b) :: es.toList)→t'.led = t.led →
   (∀ e ∈ es.toList,∀ b',e.2 = Value.ref b'→¬ (TK prog w).is s.heap ks b')→Q true { s with heap:=h' }) :
  wpAny (model prog w) A (setAddHashed a (.ref b) ((TK prog w).hash ks)) Q E s:=by
 obtain ⟨ob,ho,hx,hd⟩:=T.ob
 obtain ⟨n0,hn0,hz⟩:=T.empty ((TK prog w).hash ks)
 unfold setAddHashed setAddHashedIn
 refine wpAny_holding (wpAny_bind (wpAny_setState_of ho hd T.fits ?_))
 dsimp only
 rw [show byScan (Value.ref b) es = false from rfl]
 simp only [Bool.false_eq_true,if_false]
 unfold setSearch
 have lf:(⟨0,0⟩:Way).left n0 < 100000:=by
  unfold Way.left
  have:t.mask≤511:=by rcases T.good with e | e | e | e <;> omega
  omega
 have up0:(⟨0,0⟩:Way).upto n0:=by
  by_cases e:n0 = 0
  ·subst e; exact .inr rfl
  ·exact .inl (by show 0 < n0; omega)
 refine wpAny_bind (search_ok T hk hr hz hn0 (fun ex=>?_) (fun w2 o2 hM past none'=>?_) 100000 ⟨0,0⟩ none rfl ?_ up0 lf ?_)
 ·dsimp only
  exact wpAny_pure (hold ex)
 ·dsimp only
  refine wpAny_bind (wpAny_setState_of ho hd T.fits ?_)
  dsimp only
  have hat:=Way.at_le o2
  obtain ⟨R2,m2,l2,p2⟩:=T.rep.put hat hM ((TK prog w).hash ks,Value.ref b)
  have hb:(t.put (w2.at t.mask (SetTable.bits ((TK prog w).hash ks)))).2≤es.size:=by
   show SetTable.below t.place _≤_
   rw [T.rep.pl,below_occ M (by omega),occ_length]
   have e1:(ent M (t.mask+1)).length = es.size:=by rw [T.rep.es]; simp
   obtain ⟨_,_,_,q2,_,_⟩:=put_split (n:=t.mask+1) ((TK prog w).hash ks,Value.ref b) (show w2.at t.mask (SetTable.bits ((TK prog w).hash ks)) < t.mask+1 by omega) hM
   rw [q2,List.length_append] at e1
   omega
  generalize hput:t.put (w2.at t.mask (SetTable.bits ((TK prog w).hash ks))) = pt at R2 m2 l2 p2 hb
  obtain ⟨t1,p⟩:=pt
  dsimp only at R2 m2 l2 p2 hb ⊢
  rw [p2,T.pln]
  rw [if_pos rfl]
  refine wpAny_bind (byVal_tuple hk ?_)
  rw [if_pos rfl]
  have sz1:=insertAt_size es p hb ((TK prog w).hash ks,Value.ref b)
  have pm1:=insertAt_perm es p hb ((TK prog w).hash ks,Value.ref b)
  refine wpAny_bind (wpAny_storeSet_of ho hd ?_ (by rw [sz1]; exact Nat.le_trans (show es.size+1≤145 by omega) (by decide)))
  have sb1:=Heap.SameBut.update s.heap a (Obj.putSet (SetTable.insertAt es p ((TK prog w).hash ks,Value.ref b)) t1)
  have hg1:(s.heap.update a (Obj.putSet (SetTable.insertAt es p ((TK prog w).hash ks,Value.ref b)) t1)).get? a = some { ob with data:=.set (SetTable.insertAt es p ((TK prog w).hash ks,Value.ref b)) (ep+1) t1 }:=by
   have q:=Heap.get?_update_self (Obj.putSet (SetTable.insertAt es p ((TK prog w).hash ks,Value.ref b)) t1) ho (by rw [putSet_of _ _ hd]; rfl)
   rw [putSet_of _ _ hd] at q; exact q
  have tup1:∀ {l:List (En Value)},l.Perm (((TK prog w).hash ks,Value.ref b) :: es.toList)→Tups prog w (s.heap.update a (Obj.putSet (SetTable.insertAt es p ((TK prog w).hash ks,Value.ref b)) t1)) l:=fun {l} pm e he=>by
   rcases List.mem_cons.mp (pm.mem_iff.mp he) with z | z
   ·rw [z]; exact ⟨ks,b,rfl,is_at hk ho hd sb1,rfl⟩
   ·obtain ⟨ks',b',x1,x2,x3⟩:=T.tup e z
    exact ⟨ks',b',x1,is_at x2 ho hd sb1,x3⟩
  have rch1:Reach t.mask (setM M (w2.at t.mask (SetTable.bits ((TK prog w).hash ks))) ((TK prog w).hash ks,Value.ref b)):=by
   have more:∀ i,(M i).isSome = true→(setM M (w2.at t.mask (SetTable.bits ((TK prog w).hash ks))) ((TK prog w).hash ks,Value.ref b) i).isSome = true:=fun i hi=>by
    unfold setM; split
    ·rfl
    ·exact hi
   intro j e hj he
   by_cases q:j = w2.at t.mask (SetTable.bits ((TK prog w).hash ks))
   ·unfold setM at he; rw [if_pos q] at he; cases he
    exact ⟨w2,o2,q.symm,fun w' o' l'=>more _ (past w' o' l')⟩
   ·unfold setM at he; rw [if_neg q] at he
    obtain ⟨w3,c1,c2,c3⟩:=T.rch j e hj he
    exact ⟨w3,c1,c2,fun w' o' l'=>more _ (c3 w' o' l')⟩
  have fill1:t1.fill = es.size+1:=by
   unfold SetTable.fill
   rw [R2.size,R2.dm,sz1]; rfl
  by_cases full:t1.tooFull = true
  ·rw [if_pos (by rw [full]; rfl)]
   obtain ⟨m',gm,sa,hfm,room',hm512⟩:∃ m',Good m'∧SetTable.sizeAbove (SetTable.grown (es.size+1)) = m'+1∧es.size+1≤t.mask∧(es.size+1) * 5 < m' * 3∧es.size+1≤m':=by
    unfold SetTable.tooFull at full
    rw [fill1,m2] at full
    have f2:=of_decide_eq_true full
    have rm:=T.room
    rcases T.good with e | e | e | e
    ·rw [e] at f2 rm ⊢
     have z:es.size = 4:=by omega
     exact ⟨31,.inr (.inl rfl),by rw [z]; decide,by omega,by omega,by omega⟩
    ·rw [e] at f2 rm ⊢
     have z:es.size = 18:=by omega
     exact ⟨127,.inr (.inr (.inl rfl)),by rw [z]; decide,by omega,by omega,by omega⟩
    ·rw [e] at f2 rm ⊢
     have z:es.size = 76:=by omega
     exact ⟨511,.inr (.inr (.inr rfl)),by rw [z]; decide,by omega,by omega,by omega⟩
    ·rw [e] at f2; omega
   have fits1:t1.fits (SetTable.insertAt es p ((TK prog w).hash ks,Value.ref b)).size = true:=by
    unfold SetTable.fits
    rw [R2.size,fill1,m2]; simp; omega
   refine wpAny_bind ?_
   unfold setRelay
   refine wpAny_bind (wpAny_setState_of hg1 rfl fits1 ?_)
   dsimp only
   rw [sa]
   rw [if_neg (by rcases gm with rfl | rfl | rfl | rfl <;> decide)]
   obtain ⟨t2,order,M2,q1,q2,q3,q4,R3,rch3,pm3⟩:=laid_spec (mask:=m') gm (SetTable.insertAt es p ((TK prog w).hash ks,Value.ref b)) (by rw [sz1]; exact hm512) t1.finger (t1.movedTo m') t1.led t1.plain
   have rl:t1.relaid ((SetTable.insertAt es p ((TK prog w).hash ks,Value.ref b)).map (·.1)) (SetTable.grown (es.size+1)) = some (t2,order):=by
    unfold SetTable.relaid; rw [sa]; exact q1
   rw [rl]
   have szo:(order.filterMap ((SetTable.insertAt es p ((TK prog w).hash ks,Value.ref b))[·]?)).size = (SetTable.insertAt es p ((TK prog w).hash ks,Value.ref b)).size:=by
    have:=pm3.length_eq
    rw [Array.length_toList,Array.length_toList] at this
    exact this
   refine wpAny_bind (?_:wpAny (model prog w) A (do
    let some (tn,od):=some (t2,order) | unsupported "internal:set-table-without-room"
    let en:=od.filterMap ((SetTable.insertAt es p ((TK prog w).hash ks,Value.ref b))[·]?)
    if en.size != (SetTable.insertAt es p ((TK prog w).hash ks,Value.ref b)).size then unsupported "internal:set-table-lost-an-element"
    pure (en,tn)) _ _ _)
   dsimp only
   rw [if_neg (by rw [szo]; simp)]
   refine wpAny_pure ?_
   dsimp only
   refine wpAny_storeSet_of hg1 rfl ?_ (by rw [szo,sz1]; exact Nat.le_trans (show es.size+1≤145 by omega) (by decide))
   refine wpAny_pure ?_
   have sb2:=sb1.trans (Heap.SameBut.update (s.heap.update a (Obj.putSet (SetTable.insertAt es p ((TK prog w).hash ks,Value.ref b)) t1)) a (Obj.putSet (order.filterMap ((SetTable.insertAt es p ((TK prog w).hash ks,Value.ref b))[·]?)) t2))
   refine hnew _ _ (ep+1+1) t2 M2 sb2 ⟨⟨_,Heap.get?_update_self _ hg1 (by rw [putSet_of _ _ rfl]; rfl),?_,by rw [putSet_of _ _ rfl]⟩,R3,by rw [q2]; exact rch3,by rw [q2]; exact gm,by rw [szo,sz1,q2]; exact room',by rw [q4,p2]; exact T.pln,by rw [q3,l2]; exact T.led,?_⟩ (pm3.trans pm1) (by rw [q3,l2]) none'
   ·rw [putSet_of _ _ rfl]; exact hx
   ·intro e he
    obtain ⟨ks',b',x1,x2,x3⟩:=tup1 (pm3.trans pm1) e he
    exact ⟨ks',b',x1,is_at x2 hg1 rfl (Heap.SameBut.update _ a _),x3⟩
  ·rw [if_neg (by rw [Bool.not_eq_true] at full; rw [full]; simp)]
   refine wpAny_pure ?_
   refine hnew _ _ (ep+1) t1 _ sb1 ⟨⟨_,hg1,hx,rfl⟩,R2,by rw [m2]; exact rch1,by rw [m2]; exact T.good,?_,by rw [p2]; exact T.pln,by rw [l2]; exact T.led,tup1 pm1⟩ pm1 l2 none'
   unfold SetTable.tooFull at full
   rw [fill1] at full
   rw [sz1]
   simpa using full
 ·show (lpN t.mask (SetTable.bits ((TK prog w).hash ks)) 0).1+0≤_
  exact (runEnd_le (Nat.le_of_lt_succ (lpN_lt _ _ _))).1
 ·intro w' o' l'
  rcases l' with z | ⟨_,z⟩ <;> exact absurd z (Nat.not_lt_zero _)
end
end STab
namespace STab
open PySem
section
variable {prog:Program} {w:World} {A:Around} {E:Value→Shared→Prop}
def KeyOf (prog:Program) (w:World) (h:Heap) (v:Value) (ks:List Int):Prop:=∃ b,v = Value.ref b∧(TK prog w).is h ks b
structure Memb (prog:Program) (w:World) (h:Heap) (es:List (En Value)) (kss:List (List Int)) (vs:List Value):Prop where
 into:∀ e ∈ es,e.2 ∈ vs∧∃ ks ∈ kss,KeyOf prog w h e.2 ks
 onto:∀ ks ∈ kss,∃ e ∈ es,KeyOf prog w h e.2 ks
 once:es.Pairwise fun e f=>∀ ks,KeyOf prog w h e.2 ks→¬ KeyOf prog w h f.2 ks
 size:es.length≤kss.length
theorem KeyOf.inj {h:Heap} {v:Value} {a b:List Int} (x:KeyOf prog w h v a) (y:KeyOf prog w h v b):a = b:=by
 obtain ⟨p,rfl,x⟩:=x
 obtain ⟨q,e,y⟩:=y
 cases e
 exact (TK prog w).inj x y
theorem upd_loop {I l S:Addr} {items:Array Value} {kss:List (List Int)} (hh:A.in1.handled = none) (hne:l ≠ I) (hSI:S ≠ I) (hSl:S ≠ l) (hr:(TK prog w).room A.in1) (s0:Shared)
  (hk:∀ (i:Nat) v,items[i]? = some v→∃ ks b,kss[i]? = some ks∧v = Value.ref b∧b ≠ I∧b ≠ S∧(TK prog w).is s0.heap ks b) (hlen:kss.length = items.size) (hb:items.size≤144) {R:Result→Shared→Prop}
  (fin:∀ h tk es ep t M,(∀ b o,b ≠ I→b ≠ S→s0.heap.get? b = some o→h.get? b = some o)→Tab prog w h S es ep t M→Memb prog w s0.heap es.toList kss items.toList→R (.ok (.ret .none)) { s0 with heap:=h,toks:=tk }) :
  ∀ (k i:Nat) (h:Heap) (tk:Nat) (es:Array (En Value)) (ep:Nat) (t:SetTable) (M:Nat→Option (En Value)),items.size - i = k→i≤items.size→h.IsListIter I l i→h.IsList l items →
   (∀ b o,b ≠ I→b ≠ S→s0.heap.get? b = some o→h.get? b = some o)→Tab prog w h S es ep t M→Memb prog w s0.heap es.toList (kss.take i) items.toList →
   codeAny (model prog w) A (.builtin "set.update.loop" ⟨[.ref S,.ref I],[]⟩) R { s0 with heap:=h,toks:=tk }
 | 0,i,h,tk,es,ep,t,M,hki,hi,hit,hl,kp,T,mb=>by
  refine codeAny_builtin (PyProof.Rows.F.entry_set_update_loop) ?_
  rw [Around.under_plainId (PyProof.Rows.F.plain_set_update_loop) _]
  show wpAny _ A.in1 (pyNext (.ref I) >>= fun _=>_) _ _ { s0 with heap:=h,toks:=tk }
  refine wpAny_bind (wpAny_pyNext_list_end hh hit hl (by simp; omega) fun h' he=>?_)
  show wpAny _ A.in1 (ret Value.none) _ _ _
  refine wpAny_pure (fin h' tk es ep t M (fun b o n1 n2 e=>he b o n1 (kp b o n1 n2 e)) ?_ (by rw [List.take_of_length_le (by omega)] at mb; exact mb))
  obtain ⟨ob,ho,hx,hd⟩:=T.ob
  refine ⟨⟨ob,he S ob hSI ho,hx,hd⟩,T.rep,T.rch,T.good,T.room,T.pln,T.led,fun e hee=>?_⟩
  obtain ⟨ks,b,e1,e2,e3⟩:=T.tup e hee
  refine ⟨ks,b,e1,?_,e3⟩
  obtain ⟨o2,it2,n2,g2,c2,d2,i2⟩:=e2
  have nb:b ≠ I:=fun q=>by
   subst q
   obtain ⟨o3,g3,_,d3⟩:=hit
   rw [g2] at g3; cases g3; rw [d2] at d3; cases d3
  exact ⟨o2,it2,n2,he b o2 nb g2,c2,d2,i2⟩
 | k+1,i,h,tk,es,ep,t,M,hki,hi,hit,hl,kp,T,mb=>by
  refine codeAny_builtin (PyProof.Rows.F.entry_set_update_loop) ?_
  rw [Around.under_plainId (PyProof.Rows.F.plain_set_update_loop) _]
  show wpAny _ A.in1 (pyNext (.ref I) >>= fun _=>_) _ _ { s0 with heap:=h,toks:=tk }
  have hlt:i < items.size:=by omega
  obtain ⟨ks,b,hks,ev,nI,nS,hb0⟩:=hk i items[i] (by simp [hlt])
  refine wpAny_bind (wpAny_pyNext_list_item hit hl (x:=items[i]) (by simp [hlt]) fun h' hit' sb'=>?_)
  rw [ev]
  show wpAny _ A.in1 (holding [Value.ref b] (setAdd S (.ref b)) >>= fun _=>_) _ _ _
  refine wpAny_bind (wpAny_holding ?_)
  unfold setAdd
  refine wpAny_holding ?_
  have kp':∀ b o,b ≠ I→b ≠ S→s0.heap.get? b = some o→h'.get? b = some o:=fun b o n1 n2 e=>(sb'.2 b n1).trans (kp b o n1 n2 e)
  have isb:∀ {g:Heap},(∀ b o,b ≠ I→b ≠ S→s0.heap.get? b = some o→g.get? b = some o)→(TK prog w).is g ks b:=fun {g} q=>by
   obtain ⟨o2,it2,n2,g2,c2,d2,i2⟩:=hb0
   exact ⟨o2,it2,n2,q b o2 nI nS g2,c2,d2,i2⟩
  have T':Tab prog w h' S es ep t M:=by
   obtain ⟨ob,ho,hx,hd⟩:=T.ob
   refine ⟨⟨ob,(sb'.2 S hSI).trans ho,hx,hd⟩,T.rep,T.rch,T.good,T.room,T.pln,T.led,fun e hee=>?_⟩
   obtain ⟨ks',b',e1,e2,e3⟩:=T.tup e hee
   refine ⟨ks',b',e1,?_,e3⟩
   obtain ⟨o2,it2,n2,g2,c2,d2,i2⟩:=e2
   have nb:b' ≠ I:=fun q=>by
    subst q
    obtain ⟨o3,g3,_,d3⟩:=hit
    rw [g2] at g3; cases g3; rw [d2] at d3; cases d3
   exact ⟨o2,it2,n2,(sb'.2 b' nb).trans g2,c2,d2,i2⟩
  refine wpAny_bind ((TK prog w).pyHash hr (isb kp') ?_)
  have sz:es.size≤144:=by
   have:=mb.size
   rw [List.length_take,Array.length_toList] at this
   omega
  have key0:∀ {v:Value} {g:Heap} {q:List Int},v ∈ items.toList→(∀ b o,b ≠ I→b ≠ S→s0.heap.get? b = some o→g.get? b = some o)→KeyOf prog w g v q→KeyOf prog w s0.heap v q:=fun {v g q} hv hg hq=>by
   obtain ⟨j,hj⟩:=List.mem_iff_getElem?.mp hv
   obtain ⟨ks',b',_,ev',n1,n2,hb'⟩:=hk j v (by simpa using hj)
   obtain ⟨b2,e2,hq⟩:=hq
   rw [ev'] at e2; cases e2
   have hb2:(TK prog w).is g ks' b':=by
    obtain ⟨o2,it2,m2,g2,c2,d2,i2⟩:=hb'
    exact ⟨o2,it2,m2,hg b' o2 n1 n2 g2,c2,d2,i2⟩
   rw [(TK prog w).inj hq hb2]
   exact ⟨b',ev',hb'⟩
  have next:∀ {h2:Heap} {tk2:Nat} {es2:Array (En Value)} {ep2:Nat} {t2:SetTable} {M2:Nat→Option (En Value)},Heap.SameBut S h' h2→Tab prog w h2 S es2 ep2 t2 M2→Memb prog w s0.heap es2.toList (kss.take (i+1)) items.toList →
    codeAny (model prog w) A (.builtin "set.update.loop" ⟨[.ref S,.ref I],[]⟩) R { s0 with heap:=h2,toks:=tk2 }:=fun {h2 tk2 es2 ep2 t2 M2} sb2 T2 mb2 =>
   upd_loop hh hne hSI hSl hr s0 hk hlen hb fin k (i+1) h2 tk2 es2 ep2 t2 M2 (by omega) (by omega) (hit'.extBut sb2.extBut (Ne.symm hSI)) ((hl.extBut sb'.extBut hne).extBut sb2.extBut (Ne.symm hSl))
    (fun b o n1 n2 e=>(sb2.2 b n2).trans (kp' b o n1 n2 e)) T2 mb2
  have tk1:kss.take (i+1) = kss.take i++[ks]:=by rw [List.take_add_one,hks]; rfl
  refine add_ok (s:={ s0 with heap:=h',toks:=tk+(TK prog w).draws ks }) T' sz (isb kp') hr (fun hex=>?_) (fun h2 es2 ep2 t2 M2 sb2 T2 pm _ none'=>?_)
  ·refine wpAny_pure ⟨plainId_quiet (PyProof.Rows.F.plain_set_update_loop) _,next (Heap.SameBut.refl S h') T' ?_⟩
   obtain ⟨e,he,b',e1,e2⟩:=hex
   rw [tk1]
   refine ⟨fun f hf=>?_,fun q hq=>?_,mb.once,by rw [List.length_append]; exact Nat.le_succ_of_le mb.size⟩
   ·obtain ⟨x1,q,x2,x3⟩:=mb.into f hf
    exact ⟨x1,q,List.mem_append_left _ x2,x3⟩
   ·rcases List.mem_append.mp hq with z | z
    ·exact mb.onto q z
    ·simp at z; subst z
     exact ⟨e,he,key0 (mb.into e he).1 kp' ⟨b',e1,e2⟩⟩
  ·refine wpAny_pure ⟨plainId_quiet (PyProof.Rows.F.plain_set_update_loop) _,next sb2 T2 ?_⟩
   rw [tk1]
   have nw:∀ f ∈ es.toList,¬ KeyOf prog w s0.heap f.2 ks:=fun f hf hq=>by
    obtain ⟨b',e1,e2⟩:=hq
    refine none' f hf b' e1 ?_
    obtain ⟨j,hj⟩:=List.mem_iff_getElem?.mp (mb.into f hf).1
    obtain ⟨_,b2,_,ev',n1,n2,_⟩:=hk j f.2 (by simpa using hj)
    rw [e1] at ev'; cases ev'
    obtain ⟨o2,it2,m2,g2,c2,d2,i2⟩:=e2
    exact ⟨o2,it2,m2,kp' b' o2 n1 n2 g2,c2,d2,i2⟩
   refine ⟨fun f hf=>?_,fun q hq=>?_,?_,by rw [pm.length_eq,List.length_append]; exact Nat.succ_le_succ mb.size⟩
   ·rcases List.mem_cons.mp (pm.mem_iff.mp hf) with z | z
    ·rw [z]
     exact ⟨by rw [← ev]; simp,ks,by simp,b,rfl,hb0⟩
    ·obtain ⟨x1,q,x2,x3⟩:=mb.into f z
     exact ⟨x1,q,List.mem_append_left _ x2,x3⟩
   ·rcases List.mem_append.mp hq with z | z
    ·obtain ⟨f,hf,x⟩:=mb.onto q z
     exact ⟨f,pm.mem_iff.mpr (List.mem_cons_of_mem _ hf),x⟩
    ·simp at z; subst z
     exact ⟨_,pm.mem_iff.mpr List.mem_cons_self,b,rfl,hb0⟩
   ·refine (pm.pairwise_iff (fun {x y} hxy q hy hx=>hxy q hx hy)).mpr (List.pairwise_cons.mpr ⟨fun f hf q hq hf2=>?_,mb.once⟩)
    have:q = ks:=hq.inj ⟨b,rfl,hb0⟩
    subst this
    exact nw f hf hf2
end
end STab
namespace STab
open PySem
section
variable {prog:Program} {w:World} {A:Around} {E:Value→Shared→Prop} {s:Shared}
theorem fresh_tab {h:Heap} {a:Addr} {led:Bool} (hled:led = !(w.params.followText "set-order")) (ho:h.get? a = some { cls:=.type "set",dict:=none,data:=.set #[] 0 (.fresh 0 0 led) }):Tab prog w h a #[] 0 (.fresh 0 0 led) (fun _=>none):=by
 refine ⟨⟨_,ho,⟨rfl,rfl,rfl⟩,rfl⟩,⟨?_,?_,rfl⟩,fun j e _ he=>by simp at he,.inl rfl,(by show 0 * 5 < 7 * 3; decide),rfl,hled,fun e he=>by simp at he⟩
 ·show #[] = (occ (fun _=>none) 8).toArray
  rfl
 ·show #[] = (ent (fun _=>none) 8).toArray
  rfl
theorem new_set (a:Value) {Q1:Value→Shared→Prop}
  (h:Q1 (Value.ref s.heap.objs.size) { s with heap:=s.heap.push { cls:=.type "set",dict:=none,data:=.set #[] 0 (.fresh 0 0 (!(w.params.followText "set-order"))) } }) :
  codeAny (model prog w) A (.call (.builtin "set.__new__") ⟨[.type "set",a],[]⟩) (wants Q1 E) s:=by
 refine codeAny_of_tree ?_
 show wpAny _ A.in1 (checkBuiltinCall "set.__new__" ⟨[.type "set",a],[]⟩ >>= fun _=>again (.builtin "set.__new__" ⟨[.type "set",a],[]⟩)) _ _ s
 refine wpAny_bind (wpAny_of_eq (F.newCall_set_1 a) (wpAny_pure ⟨plainId_quiet (F.plain_set_new) _,codeAny_builtin (F.entry_set_new) ?_⟩))
 rw [Around.under_plainId (F.plain_set_new) _]
 unfold Builtin.«set.__new__» Builtin.Frozenset.newClass
 have hsub:=sub_set_self
 obtain ⟨hp,g,d,tk,os⟩:=s
 dsimp only
 wp_walk
 refine wpAny_askSetting (wpAny_pure ?_)
 dsimp only
 simp only [newObj]
 refine wpAny_bind (wpAny_alloc (wpAny_pure ?_))
 exact wpAny_pure h
set_option maxRecDepth 100000 in
set_option maxHeartbeats 3200000 in
theorem call_set_tups {l:Addr} {items:Array Value} {kss:List (List Int)} {Q:Value→Shared→Prop} (hh:A.handled = none) (hu:A.units+8 < cLine) (hl:s.heap.IsList l items)
  (hk:∀ (i:Nat) v,items[i]? = some v→∃ ks b,kss[i]? = some ks∧v = Value.ref b∧(TK prog w).is s.heap ks b) (hlen:kss.length = items.size) (hb:items.size≤144)
  (h:∀ (h':Heap) (tk:Nat) es ep t M,Tab prog w h' s.heap.objs.size es ep t M→Memb prog w s.heap es.toList kss items.toList→(∀ b o,b < s.heap.objs.size→s.heap.get? b = some o→h'.get? b = some o)→Q (.ref s.heap.objs.size) { s with heap:=h',toks:=tk }) :
  wpAny (model prog w) A (call (.type "set") [.ref l]) Q E s:=by
 obtain ⟨cc,tl,hmro⟩:=F.called_set.mro
 have hmade:=F.called_set.made
 have hsub:=F.called_set.sub
 refine wpAny_call (codeAny_of_tree ?_)
 show wpAny _ _ (callAny (Value.type "set") _) _ _ _
 refine wpAny_pure ⟨Code.quiet_builtin _ (by decide +kernel),codeAny_builtin (F.entry_type_call) ?_⟩
 rw [Around.under_plain (weight_type_call_type "set" [Value.ref l] []) rfl]
 have h1:=F.called_set.notType
 have h2:=F.called_set.canCreate
 have hct:=F.typeCall_set_1 (Value.ref l)
 repeat (any_goals (first | assumption | wp_step))
 refine codeAny_mono (new_set (Value.ref l) (E:=E) (Q1:=fun obj s1=>∃ led:Bool,led = (!(w.params.followText "set-order"))∧obj = Value.ref s.heap.objs.size∧s1 = { s with heap:=s.heap.push { cls:=.type "set",dict:=none,data:=.set #[] 0 (.fresh 0 0 led) } }) ⟨_,rfl,rfl,rfl⟩) fun r s1 hr=>?_
 cases r with
 | error e=>exact hr
 | ok fl =>
  cases fl with
  | ret obj =>
   obtain ⟨led,hled,rfl,rfl⟩:=hr
   have hS:(s.heap.push { cls:=.type "set",dict:=none,data:=.set #[] 0 (.fresh 0 0 led) }).get? s.heap.objs.size = some { cls:=.type "set",dict:=none,data:=.set #[] 0 (.fresh 0 0 led) }:=Heap.get?_push_size _ rfl
   have hT:Shared.TypeIs { s with heap:=s.heap.push { cls:=.type "set",dict:=none,data:=.set #[] 0 (.fresh 0 0 led) } } (Value.ref s.heap.objs.size) "set":=⟨_,hS,rfl⟩
   have hli:=F.called_set.init.lookup
   have hbi:=F.called_set.init.bind (Value.ref s.heap.objs.size)
   repeat (any_goals (first | assumption | wp_step))
   refine codeAny_mono (codeAny_call_builtin (R:=wants (fun r s2=>r = Value.none∧∃ h' tk es ep t M,s2 = { s with heap:=h',toks:=tk }∧Tab prog w h' s.heap.objs.size es ep t M∧Memb prog w s.heap es.toList kss items.toList ∧
     (∀ b o,b < s.heap.objs.size→s.heap.get? b = some o→h'.get? b = some o)) E) F.called_set.init.plain F.entry_set_init (check_set_init_1 hT ?_)) fun r2 s2 hr2=>?_
   ·obtain ⟨ol,hol,hcl,nl,hdl⟩:=hl
    obtain ⟨ocls,odict,odata,oslots⟩:=ol
    simp only at hcl hdl
    subst hcl; subst hdl
    have hol':(s.heap.push { cls:=.type "set",dict:=none,data:=.set #[] 0 (.fresh 0 0 led) }).get? l = some { cls:=.type "list",dict:=odict,data:=.seq items nl,slots:=oslots }:=Heap.get?_push_of_some _ hol
    have hsls:=F.sub_list_set
    have hslf:=F.sub_list_frozenset
    have hne:(Value.type "list" == Value.type "dict") = false:=by decide
    have hl1:(s.heap.push { cls:=.type "set",dict:=none,data:=.set #[] 0 (.fresh 0 0 led) }).IsList l items:=⟨_,hol',rfl,nl,rfl⟩
    unfold Builtin.«set.__init__» noKeywords Builtin.Frozenset.updateFrom
    generalize hPI:pyIter = PI
    wp_walk
    subst hPI
    refine wpAny_pyIter_list hl1 ?_
    refine wpAny_bind (wpAny_runValue ?_)
    have hlS:l < s.heap.objs.size:=Heap.lt_size hol
    have psz:(s.heap.push { cls:=.type "set",dict:=none,data:=.set #[] 0 (.fresh 0 0 led) }).objs.size = s.heap.objs.size+1:=Heap.size_push ..
    have hS2:((s.heap.push { cls:=.type "set",dict:=none,data:=.set #[] 0 (.fresh 0 0 led) }).push { cls:=.type "list_iterator",data:=.fields #[.ref l,.int 0 0] }).get? s.heap.objs.size = some { cls:=.type "set",dict:=none,data:=.set #[] 0 (.fresh 0 0 led) } :=
     Heap.get?_push_of_some _ hS
    refine upd_loop (I:=(s.heap.push { cls:=.type "set",dict:=none,data:=.set #[] 0 (.fresh 0 0 led) }).objs.size) (l:=l) (S:=s.heap.objs.size) (items:=items) (kss:=kss) (by simp [hh]) (by rw [psz]; exact Nat.ne_of_lt (Nat.lt_succ_of_lt hlS)) (by rw [psz]; exact Nat.ne_of_lt (Nat.lt_succ_self _)) (Nat.ne_of_gt hlS)
     (by show _ < cLine; simp only [Around.in1_units]; omega) s (fun i v hv=>?_) hlen hb ?_ (items.size - 0) 0 _ _ #[] 0 (.fresh 0 0 led) (fun _=>none) rfl (Nat.zero_le _) ⟨_,Heap.get?_push_size _ rfl,rfl,rfl⟩ (hl1.push _)
     (fun b o _ _ e=>Heap.get?_push_of_some _ (Heap.get?_push_of_some _ e)) (fresh_tab hled hS2) ⟨fun e he=>by simp at he,fun q hq=>by simp at hq,List.Pairwise.nil,by simp⟩
    ·obtain ⟨ks,b,e1,e2,e3⟩:=hk i v hv
     refine ⟨ks,b,e1,e2,?_,?_,e3⟩
     ·obtain ⟨o2,_,_,g2,_⟩:=e3
      rw [psz]; exact Nat.ne_of_lt (Nat.lt_succ_of_lt (Heap.lt_size g2))
     ·obtain ⟨o2,_,_,g2,_⟩:=e3
      exact Nat.ne_of_lt (Heap.lt_size g2)
    ·intro h' tk es ep t M kp T mb
     show wpAny _ _ _ _ _ _
     refine wpAny_pure ?_
     show wpAny _ _ (ret Value.none) _ _ _
     refine wpAny_pure ⟨rfl,h',tk,es,ep,t,M,rfl,T,mb,fun b o hb e=>kp b o (by rw [psz]; exact Nat.ne_of_lt (Nat.lt_succ_of_lt hb)) (Nat.ne_of_lt hb) e⟩
   ·cases r2 with
    | error e=>exact hr2
    | ok fl2 =>
     cases fl2 with
     | ret r =>
      obtain ⟨rfl,h',tk,es,ep,t,M,rfl,T,mb,kp⟩:=hr2
      repeat (any_goals (first | assumption | wp_step))
      exact h _ _ _ _ _ _ T mb kp
     | _=>exact hr2.elim
  | _=>exact hr.elim
end
end STab
namespace STab
open PySem PySem.F
theorem slot_si_next:Slot "set_iterator" "__next__" "set_iterator.__next__":=Slot.of (owner:="set_iterator") (n:="__next__") (by (rw [typeLookup_type,builtinLookup_eq_fast]); kernel_rfl) (by decide +kernel) (by decide +kernel) (by decide +kernel) (.inl (by decide +kernel)) (by (rw [isSubtype_type]); kernel_rfl)
theorem entry_si_next:entryFor table "set_iterator.__next__" = some Builtin.«set_iterator.__next__»:=entryFor_of_tree (by kernel_rfl)
theorem own_si:Manifest.owners.lookup (String.ofList ['r','o','t','a','r','e','t','i','_','t','e','s'].reverse) = some Manifest.sig_set_iterator:=by kernel_rfl
theorem args_si_next (a:Value):argsOk "set_iterator.__next__" ⟨[a],[]⟩:=by
 unfold argsOk
 rw [signature?_of (id:="set_iterator.__next__") (n:=['_','_','t','x','e','n','_','_']) (o:=['r','o','t','a','r','e','t','i','_','t','e','s']) (by kernel_rfl) own_si]
 kernel_rfl
theorem slot_si_iter:Slot "set_iterator" "__iter__" "set_iterator.__iter__":=Slot.of (owner:="set_iterator") (n:="__iter__") (by (rw [typeLookup_type,builtinLookup_eq_fast]); kernel_rfl) (by decide +kernel) (by decide +kernel) (by decide +kernel) (.inl (by decide +kernel)) (by (rw [isSubtype_type]); kernel_rfl)
theorem entry_si_iter:entryFor table "set_iterator.__iter__" = some Builtin.«dict_keyiterator.__iter__»:=entryFor_alias (id':="dict_keyiterator.__iter__") (by kernel_rfl) rfl (by decide +kernel) (by kernel_rfl)
theorem args_si_iter (a:Value):argsOk "set_iterator.__iter__" ⟨[a],[]⟩:=by
 unfold argsOk
 rw [signature?_of (id:="set_iterator.__iter__") (n:=['_','_','r','e','t','i','_','_']) (o:=['r','o','t','a','r','e','t','i','_','t','e','s']) (by kernel_rfl) own_si]
 kernel_rfl
theorem entry_set_iter:entryFor table "set.__iter__" = some Builtin.«frozenset.__iter__»:=entryFor_alias (id':="frozenset.__iter__") (by kernel_rfl) rfl (by decide +kernel) (by kernel_rfl)
end STab
namespace STab
open PySem
theorem pick_go {α:Type} (next:Nat→Nat):∀ (fuel k:Nat) (left:List α) (out:Array α),left.length = fuel→(pickOrder.go next fuel k left out).toList.Perm (out.toList++left)
 | 0,k,left,out,h=>by
  have:left = []:=List.length_eq_zero_iff.mp h
  subst this
  unfold pickOrder.go; simp
 | fuel+1,k,left,out,h=>by
  unfold pickOrder.go
  have hi:next k % left.length < left.length:=Nat.mod_lt _ (by omega)
  rw [List.getElem?_eq_getElem hi]
  dsimp only
  refine (pick_go next fuel (k+1) _ _ (by rw [List.length_eraseIdx_of_lt hi]; omega)).trans ?_
  rw [Array.toList_push,List.append_assoc]
  refine List.Perm.append_left _ ?_
  rw [List.eraseIdx_eq_take_drop_succ]
  have pm:(left[next k % left.length] :: (left.take (next k % left.length)++left.drop (next k % left.length+1))).Perm (left.take (next k % left.length)++left[next k % left.length] :: left.drop (next k % left.length+1)):=List.perm_middle.symm
  rw [← List.drop_eq_getElem_cons hi,List.take_append_drop] at pm
  exact pm
theorem pick_perm {α:Type} (next:Nat→Nat) (xs:Array α):(pickOrder next xs).toList.Perm xs.toList:=by
 have:=pick_go next xs.size 0 xs.toList #[] (by simp)
 simpa [pickOrder] using this
theorem below_eq {xs:Array Nat} (hr:Rising xs) {i j:Nat} (hi:i≤xs.size) (h1:∀ k a,k < i→xs[k]? = some a→a < j) (h2:∀ k a,i≤k→xs[k]? = some a→j≤a):SetTable.below xs j = i:=by
 obtain ⟨b0,b1,b2⟩:=below_spec hr j
 rcases Nat.lt_trichotomy (SetTable.below xs j) i with c | c | c
 ·have hk:SetTable.below xs j < xs.size:=by omega
  have e:xs[SetTable.below xs j]? = some xs[SetTable.below xs j]:=by simp [hk]
  have:=b2 _ _ (Nat.le_refl _) e
  have:=h1 _ _ c e
  omega
 ·exact c
 ·have hk:i < xs.size:=by omega
  have e:xs[i]? = some xs[i]:=by simp [hk]
  have:=b1 _ _ c e
  have:=h2 _ _ (Nat.le_refl _) e
  omega
section
variable {prog:Program} {w:World} {A:Around} {E:Value→Shared→Prop} {s:Shared}
structure Tab0 (w:World) (h:Heap) (a:Addr) (es:Array (En Value)) (ep:Nat) (t:SetTable) (M:Nat→Option (En Value)):Prop where
 ob:∃ o,h.get? a = some o∧o.ExactSet∧o.data = .set es ep t
 rep:Rep t es M
 room:es.size * 5 < t.mask * 3
 pln:t.plain = true
 led:t.led = !(w.params.followText "set-order")
theorem Tab.zero {h:Heap} {a:Addr} {es:Array (En Value)} {ep:Nat} {t:SetTable} {M:Nat→Option (En Value)} (T:Tab prog w h a es ep t M):Tab0 w h a es ep t M:=⟨T.ob,T.rep,T.room,T.pln,T.led⟩
theorem Tab0.fits {h:Heap} {a:Addr} {es:Array (En Value)} {ep:Nat} {t:SetTable} {M:Nat→Option (En Value)} (T:Tab0 w h a es ep t M):t.fits es.size = true:=by
 unfold SetTable.fits SetTable.fill
 have:=T.room
 rw [T.rep.size,T.rep.dm]
 simp; omega
theorem Tab0.at {h h':Heap} {S:Addr} {es:Array (En Value)} {ep:Nat} {t:SetTable} {M:Nat→Option (En Value)} (T:Tab0 w h S es ep t M) (kp:∀ o,h.get? S = some o→h'.get? S = some o):Tab0 w h' S es ep t M :=
 ⟨let ⟨ob,ho,hx,hd⟩:=T.ob; ⟨ob,kp ob ho,hx,hd⟩,T.rep,T.room,T.pln,T.led⟩
def ordS (w:World) (a:Addr) (ep:Nat) (es:Array (En Value)):Array (En Value):=if w.params.followText "set-order" = true then pickOrder (w.params.setOrder a ep) es else es
theorem ordS_perm (w:World) (a:Addr) (ep:Nat) (es:Array (En Value)):(ordS w a ep es).toList.Perm es.toList:=by
 unfold ordS; split
 ·exact pick_perm _ _
 ·exact List.Perm.refl _
theorem ordS_size (w:World) (a:Addr) (ep:Nat) (es:Array (En Value)):(ordS w a ep es).size = es.size:=by
 have:=(ordS_perm w a ep es).length_eq
 simpa using this
def slotS (w:World) (t:SetTable) (i:Nat):Nat:=if w.params.followText "set-order" = true then 0 else if i = 0 then 0 else t.place.getD (i - 1) 0+1
theorem byText {Q:Bool→Shared→Prop} (h:Q (w.params.followText "set-order") s):wpAny (model prog w) A setsByText Q E s:=by
 unfold setsByText
 exact wpAny_bind (wpAny_askSetting (wpAny_pure h))
theorem next_ok {a:Addr} {es:Array (En Value)} {ep:Nat} {t:SetTable} {M:Nat→Option (En Value)} (T:Tab0 w s.heap a es ep t M) {i:Nat} (hi:i≤es.size) {Q:Option (Value×Nat)→Shared→Prop}
  (h:Q ((ordS w a ep es)[i]?.map fun e=>(e.2,slotS w t (i+1))) s):wpAny (model prog w) A (setNext a (slotS w t i) i ep) Q E s:=by
 obtain ⟨ob,ho,hx,hd⟩:=T.ob
 unfold setNext
 refine wpAny_bind (wpAny_setState_of ho hd T.fits ?_)
 dsimp only
 refine wpAny_bind (byText ?_)
 cases hb:w.params.followText "set-order" with
 | true =>
  rw [if_pos rfl]
  rw [if_neg (by simp)]
  refine wpAny_bind ?_
  unfold setWalk
  refine wpAny_bind (wpAny_setState_of ho hd T.fits ?_)
  dsimp only
  refine wpAny_bind (byText ?_)
  rw [hb,if_pos rfl]
  refine wpAny_bind (wpAny_askSetting (wpAny_pure (wpAny_pure ?_)))
  unfold ordS at h
  rw [if_pos hb] at h
  unfold slotS at h ⊢
  rw [if_pos hb] at h ⊢
  exact h
 | false =>
  rw [if_neg Bool.false_ne_true]
  rw [if_neg (by show ¬ ((!t.plain && decide (es.size > 1)) = true); rw [T.pln]; simp)]
  refine wpAny_bind (?_:wpAny (model prog w) A (if (!t.led && !es.isEmpty) = true then unsupported "set:maker-not-led" else pure ()) _ _ _)
  rw [if_neg (by rw [T.led,hb]; simp)]
  refine wpAny_pure ?_
  have hr:Rising t.place:=by rw [T.rep.pl]; exact rising_of (occ_rising M _)
  have hpsz:=T.rep.size
  have bl:SetTable.below t.place (slotS w t i) = i:=by
   unfold slotS
   rw [if_neg (by rw [hb]; simp)]
   by_cases h0:i = 0
   ·rw [if_pos h0]
    refine below_eq hr (by omega) (fun k a hk=>by omega) fun k a _ _=>Nat.zero_le _
   ·rw [if_neg h0]
    have hlt:i - 1 < t.place.size:=by omega
    have eg:t.place.getD (i - 1) 0 = t.place[i - 1]:=by simp [Array.getD,hlt]
    have es':t.place[i - 1]? = some t.place[i - 1]:=by simp [hlt]
    rw [eg]
    refine below_eq hr (by omega) (fun k b hk e=>?_) fun k b hk e=>?_
    ·by_cases q:k = i - 1
     ·subst q; rw [es'] at e; cases e; omega
     ·have:=hr k (i - 1) b _ (by omega) e es'
      omega
    ·have:=hr (i - 1) k _ b (by omega) es' e
     omega
  rw [bl]
  unfold ordS at h
  rw [if_neg (by rw [hb]; simp)] at h
  by_cases hlt:i < es.size
  ·have e1:es[i]? = some es[i]:=by simp [hlt]
   have e2:t.place[i]? = some t.place[i]:=by simp [show i < t.place.size by omega]
   rw [e1] at h ⊢
   rw [e2]
   dsimp only
   refine wpAny_pure ?_
   have sl:slotS w t (i+1) = t.place[i]+1:=by
    unfold slotS
    rw [if_neg (by rw [hb]; simp),if_neg (by omega)]
    simp [Array.getD,show i < t.place.size by omega]
   rw [Option.map_some,sl] at h
   exact h
  ·have e1:es[i]? = none:=by simp; omega
   rw [e1] at h ⊢
   exact wpAny_pure h
def IsSI (h:Heap) (I S:Addr) (slot i n ep:Nat):Prop:=h.get? I = some { cls:=.type "set_iterator",data:=.fields #[.int slot 0,.int i 0,.ref S,.int n 0,.int ep 0] }
theorem IsSI.ty {I S:Addr} {slot i n ep:Nat} (h:IsSI s.heap I S slot i n ep):s.TypeIs (.ref I) "set_iterator":=⟨_,h,rfl⟩
theorem si_item {I S:Addr} {es:Array (En Value)} {ep:Nat} {t:SetTable} {M:Nat→Option (En Value)} (T:Tab0 w s.heap S es ep t M) {i:Nat} {e:En Value} (he:(ordS w S ep es)[i]? = some e) (hit:IsSI s.heap I S (slotS w t i) i es.size ep)
  {Q:Option Value→Shared→Prop} (hQ:∀ h',IsSI h' I S (slotS w t (i+1)) (i+1) es.size ep→Heap.SameBut I s.heap h'→Q (some e.2) { s with heap:=h' }):wpAny (model prog w) A (pyNext (.ref I)) Q E s:=by
 obtain ⟨ob,ho,hx,hd⟩:=T.ob
 have hi:i≤es.size:=by
  have:=(Array.getElem?_eq_some_iff.mp he).1
  rw [ordS_size] at this; omega
 unfold pyNext
 refine wpAny_bind (wpAny_attempt (wpAny_callSpecial?_slot (name:=Str.ofString "__next__") hit.ty slot_si_next (wpAny_call_entry slot_si_next hit.ty entry_si_next ?_ (args_si_next _))))
 unfold Builtin.«set_iterator.__next__»
 refine wpAny_bind (wpAny_pure ?_)
 refine wpAny_bind (wpAny_fieldsOf hit rfl ?_)
 dsimp only
 refine wpAny_bind (wpAny_setEntries_of ho hd T.fits ?_)
 rw [if_neg (by simp)]
 refine wpAny_bind (next_ok T hi ?_)
 rw [he]
 dsimp only [Option.map_some]
 refine wpAny_bind (wpAny_setField_rec hit (by simp) fun h1 g1 sb1=>?_)
 refine wpAny_bind (wpAny_setField_rec (s:={ s with heap:=h1 }) g1 (by simp) fun h2 g2 sb2=>?_)
 refine wpAny_pure ⟨e.2,rfl,wpAny_pure (hQ h2 ?_ (sb1.trans sb2))⟩
 unfold IsSI
 rw [g2]
 simp [rawInt]
theorem si_end {I S:Addr} {es:Array (En Value)} {ep:Nat} {t:SetTable} {M:Nat→Option (En Value)} (hh:A.handled = none) (T:Tab0 w s.heap S es ep t M) (hit:IsSI s.heap I S (slotS w t es.size) es.size es.size ep)
  {Q:Option Value→Shared→Prop} (hQ:∀ h',Heap.ExtBut I s.heap h'→Q none { s with heap:=h' }):wpAny (model prog w) A (pyNext (.ref I)) Q E s:=by
 obtain ⟨ob,ho,hx,hd⟩:=T.ob
 unfold pyNext
 refine wpAny_bind (wpAny_attempt (wpAny_callSpecial?_slot (name:=Str.ofString "__next__") hit.ty slot_si_next (wpAny_call_entry slot_si_next hit.ty entry_si_next ?_ (args_si_next _))))
 unfold Builtin.«set_iterator.__next__»
 refine wpAny_bind (wpAny_pure ?_)
 refine wpAny_bind (wpAny_fieldsOf hit rfl ?_)
 dsimp only
 refine wpAny_bind (wpAny_setEntries_of ho hd T.fits ?_)
 rw [if_neg (by simp)]
 refine wpAny_bind (next_ok T (Nat.le_refl _) ?_)
 have he:(ordS w S ep es)[es.size]? = none:=by rw [Array.getElem?_eq_none_iff,ordS_size]; exact Nat.le_refl _
 rw [he]
 dsimp only [Option.map_none]
 refine wpAny_bind (wpAny_setField_rec hit (by simp) fun h1 g1 sb1=>?_)
 refine wpAny_bind ?_
 (simp only [newExc,newTuple])
 refine wpAny_bind (wpAny_newObj_type ?_ (by size_fits))
 refine wpAny_bind (m:=firstArgMember _ _) (wpAny_of_eq (a:=Value.none) (by first | rfl | (simp only [firstArgMember]; rfl)) ?_)
 refine wpAny_newObj_type ?_ (by size_fits)
 (simp only [raiseNew])
 refine wpAny_bind (wpAny_handled ?_)
 rw [(show A.in1.handled = none from hh)]
 refine wpAny_bind (wpAny_pure (wpAny_throw ?_))
 refine wpAny_bind (wpAny_isInstance (T:="StopIteration") (b:=true) ⟨_,Heap.get?_push_size _ rfl,rfl⟩ isSubtype_stop ?_)
 exact wpAny_pure (hQ _ ((sb1.extBut.push _).push _))
theorem set_iter {S:Addr} {es:Array (En Value)} {ep:Nat} {t:SetTable} {M:Nat→Option (En Value)} (T:Tab0 w s.heap S es ep t M) {Q:Value→Shared→Prop}
  (hQ:Q (.ref s.heap.objs.size) { s with heap:=s.heap.push { cls:=.type "set_iterator",data:=.fields #[.int 0 0,.int 0 0,.ref S,.int es.size 0,.int ep 0] } }):wpAny (model prog w) A (pyIter (.ref S)) Q E s:=by
 obtain ⟨ob,ho,hx,hd⟩:=T.ob
 have hT:s.TypeIs (.ref S) "set":=⟨ob,ho,hx.1⟩
 refine wpAny_pyIter_slot hT F.slot_set_iter (wpAny_call_entry F.slot_set_iter hT entry_set_iter ?_ (F.args_set_iter_1 _))
 unfold Builtin.«frozenset.__iter__» Builtin.Frozenset.slot0 slotArgs
 simp only [List.isEmpty_nil,Bool.not_true,Bool.false_eq_true,if_false,bind_assoc,List.length_nil,bne_self_eq_false]
 unfold Builtin.Frozenset.addrOf Builtin.Frozenset.sizeOf
 refine wpAny_bind (wpAny_pure ?_)
 try dsimp only
 refine wpAny_bind (wpAny_pure ?_)
 refine wpAny_bind (wpAny_bind (wpAny_setEntries_of ho hd T.fits (wpAny_pure ?_)))
 refine wpAny_bind ?_
 unfold setDrawn
 refine wpAny_bind (wpAny_setState_of ho hd T.fits ?_)
 dsimp only
 refine wpAny_bind (byText (wpAny_pure ?_))
 rw [if_neg (by show ¬ ((!(w.params.followText "set-order") && (!t.plain && decide (es.size > 1))) = true); rw [T.pln]; simp)]
 refine wpAny_bind (wpAny_pure ?_)
 refine wpAny_bind (wpAny_setEpoch_of ho hd T.fits ?_)
 refine wpAny_bind ?_
 simp only [newFields]
 refine wpAny_newObj_type ?_ (by size_fits)
 refine wpAny_pure ⟨_,rfl,"set_iterator",_,⟨_,Heap.get?_push_size _ rfl,rfl⟩,slot_si_next.lookup,hQ⟩
theorem walk_set (hh:A.handled = none) (I S:Addr) (hne:S ≠ I) (es:Array (En Value)) (ep:Nat) (t:SetTable) (M:Nat→Option (En Value)) :
  Walks prog w A I [I,S] [I] es.size (fun i v=>∃ e,(ordS w S ep es)[i]? = some e∧e.2 = v) (fun i h=>IsSI h I S (slotS w t i) i es.size ep∧Tab0 w h S es ep t M) where
 sub:=fun b hb=>by simp at hb; simp [hb]
 frame:=fun _ _ _ st hk=>⟨hk I (by simp) _ st.1,st.2.at fun o e=>hk S (by simp) o e⟩
 item:=fun i s Q E hi st hQ=>by
  have hlt:i < (ordS w S ep es).size:=by rw [ordS_size]; exact hi
  refine si_item st.2 (e:=(ordS w S ep es)[i]) (by simp [hlt]) st.1 fun h' g' sb'=>?_
  exact hQ _ h' s.toks ⟨_,by simp [hlt],rfl⟩ ⟨g',st.2.at fun o e=>(sb'.2 S hne).trans e⟩ fun b o hb e=>(sb'.2 b (fun h=>hb (by simp [h]))).trans e
 done:=fun s Q E st hQ=>si_end hh st.2 st.1 fun h' he=>hQ h' s.toks fun b o hb e=>he b o (fun h=>hb (by simp [h])) e
 self:=fun i s Q E st hQ=>by
  refine wpAny_pyIter_slot st.1.ty slot_si_iter (wpAny_call_entry slot_si_iter st.1.ty entry_si_iter ?_ (args_si_iter _))
  show wpAny _ _ (ret (.ref I)) _ _ s
  exact wpAny_pure ⟨_,rfl,"set_iterator",_,st.1.ty,slot_si_next.lookup,hQ⟩
theorem set_hint {r:Addr} {Q:Bool→Shared→Prop} (hT:s.TypeIs (.ref r) "set") (h:Q false s):wpAny (model prog w) A (Builtin.List.listLengthHint (.ref r)) Q E s:=by
 unfold Builtin.List.listLengthHint
 refine wpAny_bind (wpAny_specialOf hT PySem.F.slot_set_len.lookup ?_)
 generalize hid:("set.__len__":String) = id0
 wp_delta
 rw [show splitId id0 = some ("set","__len__") from by subst hid; decide +kernel]
 subst hid
 refine wpAny_bind (wpAny_isInstance (T:="set") (b:=true) hT (by (rw [isSubtype_type]); kernel_rfl) ?_)
 refine wpAny_ite_split (fun hab=>absurd hab (by decide)) (fun _=>?_)
 (refine wpAny_ite_split (fun _=>?_) (fun hab=>absurd (by decide +kernel) hab))
 refine wpAny_bind (wpAny_typeOf hT ?_)
 exact wpAny_pure h
theorem src_set (S:Addr) (es:Array (En Value)) (ep:Nat) (t:SetTable) (M:Nat→Option (En Value)):PySem.W.KdlSrc prog w "set" S S es.size (fun i v=>∃ e,(ordS w S ep es)[i]? = some e∧e.2 = v) (fun h=>Tab0 w h S es ep t M) where
 type:=fun _ T=>let ⟨ob,ho,hx,_⟩:=T.ob; ⟨ob,ho,hx.1⟩
 there:=fun _ T=>let ⟨_,ho,_,_⟩:=T.ob; ⟨Heap.lt_size ho,Heap.lt_size ho⟩
 keep:=fun _ _ T hk=>T.at fun o e=>hk S (.inl rfl) o e
 notList:=by decide
 notTuple:=by decide
 hint:=fun _ _ s _ T hq=>set_hint (let ⟨ob,ho,hx,_⟩:=T.ob; ⟨ob,ho,hx.1⟩) hq
 iter:=fun _ s hh T=>⟨_,_,(fun _ _ hq=>set_iter T hq),walk_set hh _ S (let ⟨_,ho,_,_⟩:=T.ob; Nat.ne_of_lt (Heap.lt_size ho)) es ep t M,by
  refine ⟨?_,T.at fun o e=>Heap.get?_push_of_some _ e⟩
  have z:slotS w t 0 = 0:=by unfold slotS; split <;> rfl
  unfold IsSI
  rw [z]
  exact Heap.get?_push_size _ rfl⟩
end
end STab
namespace Srt
open PySem PySem.W PyProof.Rows Geo
def kat (key:Nat→Pt) (p:Array Nat) (i:Nat):Pt:=key (p.getD i 0)
theorem kat_congr {key:Nat→Pt} {p q:Array Nat} {i j:Nat} (h:p[i]? = q[j]?):kat key p i = kat key q j:=by
 unfold kat
 rw [Array.getD_eq_getD_getElem?,Array.getD_eq_getD_getElem?,h]
theorem kat_rev {key:Nat→Pt} {p:Array Nat} {i j:Nat} (hj:j≤p.size) (k:Nat):kat key (kas_rev p i j) k = if i≤k∧k < j then kat key p (i+j - 1 - k) else kat key p k:=by
 have e:=getElem?_mirror_all (i:=i) hj k
 by_cases h:i≤k∧k < j
 ·rw [if_pos h] at e ⊢; exact kat_congr e
 ·rw [if_neg h] at e ⊢; exact kat_congr e
theorem kat_bub {key:Nat→Pt} {p:Array Nat} {k l:Nat} (hk:k < p.size) (hl:l≤k) (i:Nat):kat key (bubble p k (k - l)) i = if i = l then kat key p k else if l < i∧i≤k then kat key p (i - 1) else kat key p i:=by
 have e:=getElem?_bubble hk (k - l) (Nat.sub_le _ _) i
 rw [show k - (k - l) = l by omega] at e
 by_cases h1:i = l
 ·rw [if_pos h1] at e ⊢; exact kat_congr e
 ·rw [if_neg h1] at e ⊢
  by_cases h2:l < i∧i≤k
  ·rw [if_pos h2] at e ⊢; exact kat_congr e
  ·rw [if_neg h2] at e ⊢; exact kat_congr e
def Up (key:Nat→Pt) (p:Array Nat) (m:Nat):Prop:=∀ i j,i≤j→j < m→leP (kat key p i) (kat key p j) = true
def Dn (key:Nat→Pt) (p:Array Nat) (m:Nat):Prop:=∀ i j,i≤j→j < m→leP (kat key p j) (kat key p i) = true
theorem le_refl' (a:Pt):leP a a = true:=by rw [leP_iff]; omega
theorem le_tr {a b c:Pt} (h1:leP a b = true) (h2:leP b c = true):leP a c = true:=by rw [leP_iff] at *; omega
theorem le_of_lt {a b:Pt} (h:ltP a b = true):leP a b = true:=by rw [ltP_iff] at h; rw [leP_iff]; omega
theorem le_of_nlt {a b:Pt} (h:ltP a b = false):leP b a = true:=by unfold leP; rw [h]; rfl
theorem eq_of_n {a b:Pt} (h1:ltP a b = false) (h2:ltP b a = false):a = b:=leP_antisymm (le_of_nlt h2) (le_of_nlt h1)
structure Ok (n:Nat) (p:Array Nat):Prop where
 perm:p.Perm (List.toArray (List.range n))
theorem Ok.size {n:Nat} {p:Array Nat} (h:Ok n p):p.size = n:=by rw [h.perm.size_eq]; simp
theorem Ok.at {n:Nat} {p:Array Nat} (h:Ok n p) (hn:0 < n) (i:Nat):p.getD i 0 < n:=by
 rw [Array.getD_eq_getD_getElem?]
 cases e:p[i]? with
 | none=>exact hn
 | some x =>
  have hm:x ∈ p:=Array.mem_of_getElem? e
  have:=h.perm.mem_iff.mp hm
  simpa using this
theorem Ok.rev {n:Nat} {p:Array Nat} (h:Ok n p) (i j:Nat):Ok n (kas_rev p i j):=⟨(mirror_perm _ _ _ _).trans h.perm⟩
theorem Ok.bub {n:Nat} {p:Array Nat} (h:Ok n p) (i j:Nat):Ok n (bubble p i j):=⟨(bubble_perm _ _ _).trans h.perm⟩
section
variable {n:Nat} {key:Nat→Pt} {cmp:Nat→Nat→(Bool→Shared→Prop)→Shared→Prop} {s:Shared}
theorem asc_ok (hn:0 < n) (hc:∀ i j C,i < n→j < n→C (ltP (key i) (key j)) s→cmp i j C s) {p:Array Nat} (hp:Ok n p) {G:Nat→Shared→Prop}:∀ f m,1≤m→m+f≤n→Up key p m→(∀ m',m≤m'→m'≤m+f→Up key p m'→(m' < m+f→ltP (kat key p m') (kat key p (m' - 1)) = true)→G m' s)→(kas_asc p f m).kasWp cmp G s
 | 0,m,_,_,hu,hG=>hG m (Nat.le_refl _) (Nat.le_refl _) hu (fun h=>by omega)
 | f+1,m,h1,hm,hu,hG=>by
  refine hc _ _ _ (hp.at hn _) (hp.at hn _) ?_
  show KasT.kasWp cmp (if ltP (kat key p m) (kat key p (m - 1)) = true then KasT.ret m else kas_asc p f (m+1)) G s
  cases e:ltP (kat key p m) (kat key p (m - 1)) with
  | true=>exact hG m (Nat.le_refl _) (by omega) hu (fun _=>e)
  | false =>
   refine asc_ok hn hc hp f (m+1) (by omega) (by omega) (fun i j hij hj=>?_) fun m' a b c d=>hG m' (by omega) (by omega) c (fun h=>d (by omega))
   by_cases hjm:j < m
   ·exact hu i j hij hjm
   ·obtain rfl:j = m:=by omega
    by_cases hi:i = j
    ·rw [hi]; exact le_refl' _
    ·exact le_tr (hu i (j - 1) (by omega) (by omega)) (le_of_nlt e)
theorem place_ok (hn:0 < n) (hc:∀ i j C,i < n→j < n→C (ltP (key i) (key j)) s→cmp i j C s) {p:Array Nat} (hp:Ok n p) {k:Nat} (hu:Up key p k) {G:Nat→Shared→Prop}:∀ f l r,l≤r→r≤k→r - l≤f→(∀ i,i < l→leP (kat key p i) (kat key p k) = true)→(∀ i,r≤i→i < k→ltP (kat key p k) (kat key p i) = true) →
  (∀ l',l'≤k→(∀ i,i < l'→leP (kat key p i) (kat key p k) = true)→(∀ i,l'≤i→i < k→ltP (kat key p k) (kat key p i) = true)→G l' s)→(kas_place p k f l r).kasWp cmp G s
 | 0,l,r,h1,h2,h3,a,b,hG=>hG l (by omega) a (fun i hi hk=>b i (by omega) hk)
 | f+1,l,r,h1,h2,h3,a,b,hG=>by
  unfold kas_place
  by_cases hlr:l ≥ r
  ·rw [if_pos hlr]; exact hG l (by omega) a (fun i hi hk=>b i (by omega) hk)
  ·rw [if_neg hlr]
   refine hc _ _ _ (hp.at hn _) (hp.at hn _) ?_
   show KasT.kasWp cmp (if ltP (kat key p k) (kat key p ((l+r) / 2)) = true then kas_place p k f l ((l+r) / 2) else kas_place p k f ((l+r) / 2+1) r) G s
   cases e:ltP (kat key p k) (kat key p ((l+r) / 2)) with
   | true =>
    refine place_ok hn hc hp hu f l ((l+r) / 2) (by omega) (by omega) (by omega) a (fun i hi hk=>?_) hG
    have q:=hu ((l+r) / 2) i hi hk
    rw [ltP_iff] at e ⊢; rw [leP_iff] at q; omega
   | false =>
    refine place_ok hn hc hp hu f ((l+r) / 2+1) r (by omega) (by omega) (by omega) (fun i hi=>?_) b hG
    exact le_tr (hu i ((l+r) / 2) (by omega) (by omega)) (le_of_nlt e)
theorem bin_ok (hn:0 < n) (hc:∀ i j C,i < n→j < n→C (ltP (key i) (key j)) s→cmp i j C s) {G:Array Nat→Shared→Prop} (hG:∀ p,Ok n p→Up key p n→G p s):∀ f (p:Array Nat) k,k+f = n→Ok n p→Up key p k→(kas_bin f p k).kasWp cmp G s
 | 0,p,k,hk,hp,hu=>hG p hp (by rw [← hk]; exact hu)
 | f+1,p,k,hk,hp,hu=>by
  show ((kas_place p k k 0 k).bind fun l=>kas_bin f (bubble p k (k - l)) (k+1)).kasWp cmp G s
  rw [KasT.kasWp_bind]
  refine place_ok hn hc hp hu k 0 k (by omega) (by omega) (by omega) (fun i hi=>by omega) (fun i h1 h2=>by omega) fun l hl a b=>?_
  refine bin_ok hn hc hG f _ (k+1) (by omega) (hp.bub _ _) fun i j hij hj=>?_
  have hks:k < p.size:=by rw [hp.size]; omega
  rw [kat_bub hks hl,kat_bub hks hl]
  by_cases i1:i = l
  ·rw [if_pos i1]
   by_cases j1:j = l
   ·rw [if_pos j1]; exact le_refl' _
   ·rw [if_neg j1,if_pos (by omega)]
    exact le_of_lt (b (j - 1) (by omega) (by omega))
  ·rw [if_neg i1]
   by_cases i2:l < i∧i≤k
   ·rw [if_pos i2,if_neg (by omega),if_pos (by omega)]
    exact hu (i - 1) (j - 1) (by omega) (by omega)
   ·rw [if_neg i2]
    have hil:i < l:=by omega
    by_cases j1:j = l
    ·rw [if_pos j1]; exact a i hil
    ·rw [if_neg j1]
     by_cases j2:l < j∧j≤k
     ·rw [if_pos j2]; exact hu i (j - 1) (by omega) (by omega)
     ·rw [if_neg j2]; exact hu i j hij (by omega)
theorem kat_rev_eq {p:Array Nat} {i j:Nat} (hj:j≤p.size) (he:∀ k,i≤k→k < j→kat key p k = kat key p (j - 1)) (k:Nat):kat key (kas_rev p i j) k = kat key p k:=by
 rw [kat_rev hj]
 split
 ·rename_i h
  rw [he _ (by omega) (by omega),he k h.1 h.2]
 ·rfl
theorem desc_ok (hn:0 < n) (hc:∀ i j C,i < n→j < n→C (ltP (key i) (key j)) s→cmp i j C s) {G:Array Nat×Nat×Nat→Shared→Prop}:∀ f (p:Array Nat) m q,1≤m→m+f≤n→Ok n p→Dn key p m→q+1≤m→(∀ k,m - (q+1)≤k→k < m→kat key p k = kat key p (m - 1)) →
  (∀ p' m' q',Ok n p'→m≤m'→m'≤m+f→Dn key p' m'→q'+1≤m'→(∀ k,m' - (q'+1)≤k→k < m'→kat key p' k = kat key p' (m' - 1))→G (p',m',q') s)→(kas_desc f p m q).kasWp cmp G s
 | 0,p,m,q,_,_,hp,hd,h1,he,hG=>hG p m q hp (Nat.le_refl _) (Nat.le_refl _) hd h1 he
 | f+1,p,m,q,h1,hm,hp,hd,hq,he,hG=>by
  have sz:m≤p.size:=by rw [hp.size]; omega
  refine hc _ _ _ (hp.at hn _) (hp.at hn _) ?_
  show KasT.kasWp cmp (if ltP (kat key p m) (kat key p (m - 1)) = true then (if q > 0 then kas_desc f (kas_rev p (m - (q+1)) m) (m+1) 0 else kas_desc f p (m+1) 0) else _) G s
  have ext:∀ p':Array Nat,(∀ k,kat key p' k = kat key p k)→leP (kat key p m) (kat key p (m - 1)) = true→Dn key p' (m+1):=fun p' hk hle i j hij hj=>by
   rw [hk,hk]
   by_cases hjm:j < m
   ·exact hd i j hij hjm
   ·obtain rfl:j = m:=by omega
    by_cases hi:i = j
    ·rw [hi]; exact le_refl' _
    ·exact le_tr hle (hd i (j - 1) (by omega) (by omega))
  have one:∀ p':Array Nat,∀ k,m+1 - (0+1)≤k→k < m+1→kat key p' k = kat key p' (m+1 - 1):=fun p' k a b=>by
   rw [show k = m+1 - 1 by omega]
  cases e:ltP (kat key p m) (kat key p (m - 1)) with
  | true =>
   rw [if_pos rfl]
   by_cases hq0:q > 0
   ·rw [if_pos hq0]
    exact desc_ok hn hc f _ (m+1) 0 (by omega) (by omega) (hp.rev _ _) (ext _ (kat_rev_eq sz he) (le_of_lt e)) (by omega) (one _) fun p' m' q' a b c d g k=>hG p' m' q' a (by omega) (by omega) d g k
   ·rw [if_neg hq0]
    exact desc_ok hn hc f p (m+1) 0 (by omega) (by omega) hp (ext p (fun _=>rfl) (le_of_lt e)) (by omega) (one _) fun p' m' q' a b c d g k=>hG p' m' q' a (by omega) (by omega) d g k
  | false =>
   rw [if_neg (by simp)]
   refine hc _ _ _ (hp.at hn _) (hp.at hn _) ?_
   show KasT.kasWp cmp (if ltP (kat key p (m - 1)) (kat key p m) = true then KasT.ret (p,m,q) else kas_desc f p (m+1) (q+1)) G s
   cases e2:ltP (kat key p (m - 1)) (kat key p m) with
   | true=>exact hG p m q hp (Nat.le_refl _) (by omega) hd hq he
   | false =>
    have eq:=eq_of_n e e2
    refine desc_ok hn hc f p (m+1) (q+1) (by omega) (by omega) hp (ext p (fun _=>rfl) (le_of_nlt e2)) (by omega) (fun k a b=>?_) fun p' m' q' a b c d g k=>hG p' m' q' a (by omega) (by omega) d g k
    show kat key p k = kat key p m
    by_cases hk:k = m
    ·rw [hk]
    ·rw [he k (by omega) (by omega),eq]
theorem tail_ok (hn:0 < n) (hc:∀ i j C,i < n→j < n→C (ltP (key i) (key j)) s→cmp i j C s) {p:Array Nat} (hp:Ok n p) {m:Nat} (h1:1≤m) (hm:m≤n) (hd:Dn key p m) {G:Nat×Array Nat→Shared→Prop} (hG:∀ m' p',Ok n p'→1≤m'→m'≤n→Up key p' m'→G (m',p') s) :
  (kas_tail3 m n p).kasWp cmp G s:=by
 unfold kas_tail3
 rw [KasT.kasWp_bind]
 refine asc_ok hn hc (hp.rev 0 m) (n - m) m h1 (by omega) (fun i j hij hj=>?_) fun m' a b c _=>hG m' _ (hp.rev 0 m) (by omega) (by omega) c
 have sz:m≤p.size:=by rw [hp.size]; omega
 rw [kat_rev sz,kat_rev sz,if_pos (by omega),if_pos (by omega)]
 exact hd (0+m - 1 - j) (0+m - 1 - i) (by omega) (by omega)
theorem part_ok (hn:0 < n) (hc:∀ i j C,i < n→j < n→C (ltP (key i) (key j)) s→cmp i j C s) {p:Array Nat} (hp:Ok n p) {m:Nat} (h1:1≤m) (hm:m+1≤n) (hd:Dn key p (m+1)) {G:Nat×Array Nat→Shared→Prop} (hG:∀ m' p',Ok n p'→1≤m'→m'≤n→Up key p' m'→G (m',p') s) :
  (kas_descPart m n p).kasWp cmp G s:=by
 unfold kas_descPart
 rw [KasT.kasWp_bind]
 refine desc_ok hn hc (n - (m+1)) p (m+1) 0 (by omega) (by omega) hp hd (by omega) (fun k a b=>by rw [show k = m+1 - 1 by omega]) fun p' m' q' a b c d g k=>?_
 show KasT.kasWp cmp (if q' > 0 then kas_tail3 m' n (kas_rev p' (m' - (q'+1)) m') else kas_tail3 m' n p') G s
 by_cases hq:q' > 0
 ·rw [if_pos hq]
  have sz:m'≤p'.size:=by rw [a.size]; omega
  refine tail_ok hn hc (a.rev _ _) (by omega) (by omega) (fun i j hij hj=>?_) hG
  rw [kat_rev_eq sz k,kat_rev_eq sz k]
  exact d i j hij hj
 ·rw [if_neg hq]
  exact tail_ok hn hc a (by omega) (by omega) d hG
theorem count_ok (hn:0 < n) (hc:∀ i j C,i < n→j < n→C (ltP (key i) (key j)) s→cmp i j C s) {p:Array Nat} (hp:Ok n p) {G:Nat×Array Nat→Shared→Prop} (hG:∀ m' p',Ok n p'→1≤m'→m'≤n→Up key p' m'→G (m',p') s) :
  (kas_count n p).kasWp cmp G s:=by
 unfold kas_count
 rw [KasT.kasWp_bind]
 refine asc_ok hn hc hp (n - 1) 1 (by omega) (by omega) (fun i j hij hj=>by rw [show i = 0 by omega,show j = 0 by omega]; exact le_refl' _) fun m a b c d=>?_
 by_cases hmn:m = n
 ·rw [if_pos (by simp [hmn])]
  exact hG m p hp (by omega) (by omega) c
 ·rw [if_neg (by simp [hmn])]
  have dm:=d (by omega)
  have sz:m≤p.size:=by rw [hp.size]; omega
  by_cases hm1:m > 1
  ·rw [if_pos hm1]
   refine hc _ _ _ (hp.at hn _) (hp.at hn _) ?_
   show KasT.kasWp cmp (if ltP (kat key p 0) (kat key p (m - 1)) = true then KasT.ret (m,p) else kas_descPart m n (kas_rev p 0 m)) G s
   cases e:ltP (kat key p 0) (kat key p (m - 1)) with
   | true=>exact hG m p hp (by omega) (by omega) c
   | false =>
    have alle:∀ k,0≤k→k < m→kat key p k = kat key p (m - 1):=fun k _ hk=>leP_antisymm (c k (m - 1) (by omega) (by omega)) (le_tr (le_of_nlt e) (c 0 k (by omega) hk))
    refine part_ok hn hc (hp.rev _ _) (by omega) (by omega) (fun i j hij hj=>?_) hG
    rw [kat_rev_eq sz alle,kat_rev_eq sz alle]
    by_cases hjm:j < m
    ·rw [alle i (by omega) (by omega),alle j (by omega) hjm]; exact le_refl' _
    ·obtain rfl:j = m:=by omega
     by_cases hi:i = j
     ·rw [hi]; exact le_refl' _
     ·rw [alle i (by omega) (by omega)]; exact le_of_lt dm
  ·rw [if_neg hm1]
   have m1:m = 1:=by omega
   subst m1
   refine part_ok hn hc hp (by omega) (by omega) (fun i j hij hj=>?_) hG
   by_cases hi:i = j
   ·rw [hi]; exact le_refl' _
   ·rw [show i = 0 by omega,show j = 1 by omega]; exact le_of_lt dm
theorem sort_ok (hn:0 < n) (hc:∀ i j C,i < n→j < n→C (ltP (key i) (key j)) s→cmp i j C s) {G:Array Nat→Shared→Prop} (hG:∀ p,Ok n p→Up key p n→G p s):(kas_sort n).kasWp cmp G s:=by
 unfold kas_sort
 rw [KasT.kasWp_bind]
 refine count_ok hn hc ⟨Array.Perm.refl _⟩ fun m p hp h1 hm hu=>?_
 show KasT.kasWp cmp (if m < n then kas_bin (n - max m 1) p (max m 1) else KasT.ret p) G s
 by_cases hmn:m < n
 ·rw [if_pos hmn,show max m 1 = m by omega]
  exact bin_ok hn hc hG (n - m) p m (by omega) hp hu
 ·rw [if_neg hmn]
  obtain rfl:m = n:=by omega
  exact hG p hp hu
end
end Srt
set_option maxRecDepth 100000
namespace SrtB
open PySem PySem.W PyProof.Rows Geo Srt
def ky (key:Keyed→Pt) (xs:Array Keyed) (i:Nat):Pt:=key (xs.getD i (Value.none,Value.none))
theorem ky_congr {key:Keyed→Pt} {p q:Array Keyed} {i j:Nat} (h:p[i]? = q[j]?):ky key p i = ky key q j:=by
 unfold ky
 rw [Array.getD_eq_getD_getElem?,Array.getD_eq_getD_getElem?,h]
theorem ky_rev {key:Keyed→Pt} {p:Array Keyed} {i j:Nat} (hj:j≤p.size) (k:Nat):ky key (mirror p i j ((j - i) / 2)) k = if i≤k∧k < j then ky key p (i+j - 1 - k) else ky key p k:=by
 have e:=getElem?_mirror_all (i:=i) hj k
 by_cases h:i≤k∧k < j
 ·rw [if_pos h] at e ⊢; exact ky_congr e
 ·rw [if_neg h] at e ⊢; exact ky_congr e
theorem ky_rev_eq {key:Keyed→Pt} {p:Array Keyed} {i j:Nat} (hj:j≤p.size) (he:∀ k,i≤k→k < j→ky key p k = ky key p (j - 1)) (k:Nat):ky key (mirror p i j ((j - i) / 2)) k = ky key p k:=by
 rw [ky_rev hj]
 split
 ·rename_i h
  rw [he _ (by omega) (by omega),he k h.1 h.2]
 ·rfl
theorem ky_bub {key:Keyed→Pt} {p:Array Keyed} {k l:Nat} (hk:k < p.size) (hl:l≤k) (i:Nat):ky key (bubble p k (k - l)) i = if i = l then ky key p k else if l < i∧i≤k then ky key p (i - 1) else ky key p i:=by
 have e:=getElem?_bubble hk (k - l) (Nat.sub_le _ _) i
 rw [show k - (k - l) = l by omega] at e
 by_cases h1:i = l
 ·rw [if_pos h1] at e ⊢; exact ky_congr e
 ·rw [if_neg h1] at e ⊢
  by_cases h2:l < i∧i≤k
  ·rw [if_pos h2] at e ⊢; exact ky_congr e
  ·rw [if_neg h2] at e ⊢; exact ky_congr e
theorem lt_le {a b c:Pt} (h1:ltP a b = true) (h2:leP b c = true):ltP a c = true:=by rw [ltP_iff] at *; rw [leP_iff] at h2; omega
theorem le_lt {a b c:Pt} (h1:leP a b = true) (h2:ltP b c = true):ltP a c = true:=by rw [ltP_iff] at *; rw [leP_iff] at h1; omega
def Up (key:Keyed→Pt) (p:Array Keyed) (lo m:Nat):Prop:=∀ i j,lo≤i→i≤j→j < m→leP (ky key p i) (ky key p j) = true
def Dn (key:Keyed→Pt) (p:Array Keyed) (lo m:Nat):Prop:=∀ i j,lo≤i→i≤j→j < m→leP (ky key p j) (ky key p i) = true
structure Cp (M:Model) (A:Around) (E:Value→Shared→Prop) (s:Shared) (κ:SortKind) (key:Keyed→Pt) (Itm:Keyed→Prop):Prop where
 lt:∀ {st:SortSt} {x y:Keyed} {Q:Option Bool→SortSt→Prop},kindOf st = κ→Itm x→Itm y→Q (some (ltP (key x) (key y))) st→wpS M A E s (lt' x y) Q st
structure Ok (κ:SortKind) (Itm:Keyed→Prop) (n:Nat) (st:SortSt):Prop where
 kind:kindOf st = κ
 failed:failedOf st = none
 size:(arrOf st).size = n
 itm:∀ x ∈ arrOf st,Itm x
structure Mv (lo:Nat) (st st':SortSt):Prop where
 perm:(arrOf st').Perm (arrOf st)
 low:∀ i,i < lo→(arrOf st')[i]? = (arrOf st)[i]?
 pend:pendingOf st' = pendingOf st
 kind:kindOf st' = kindOf st
 failed:failedOf st' = failedOf st
theorem Mv.refl {lo:Nat} (st:SortSt):Mv lo st st:=⟨Array.Perm.refl _,fun _ _=>rfl,rfl,rfl,rfl⟩
theorem Mv.trans {lo:Nat} {a b c:SortSt} (h:Mv lo a b) (k:Mv lo b c):Mv lo a c:=⟨k.perm.trans h.perm,fun i hi=>(k.low i hi).trans (h.low i hi),k.pend.trans h.pend,k.kind.trans h.kind,k.failed.trans h.failed⟩
theorem Ok.mv {κ:SortKind} {Itm:Keyed→Prop} {n lo:Nat} {st st':SortSt} (o:Ok κ Itm n st) (m:Mv lo st st'):Ok κ Itm n st' :=
 ⟨m.kind.trans o.kind,m.failed.trans o.failed,m.perm.size_eq.trans o.size,fun x hx=>o.itm x (m.perm.mem_iff.mp hx)⟩
theorem Ok.at {κ:SortKind} {Itm:Keyed→Prop} {n:Nat} {st:SortSt} (o:Ok κ Itm n st) {i:Nat} (hi:i < n) (key:Keyed→Pt):∃ x,(arrOf st)[i]? = some x∧Itm x∧ky key (arrOf st) i = key x:=by
 have hi':i < (arrOf st).size:=by rw [o.size]; exact hi
 refine ⟨(arrOf st)[i],getElem?_pos _ i hi',o.itm _ (Array.getElem_mem hi'),?_⟩
 unfold ky
 rw [show (arrOf st).getD i (Value.none,Value.none) = (arrOf st)[i] by simp [Array.getD,hi']]
theorem mv_rev {lo i j:Nat} {st:SortSt} (hi:lo≤i) (hj:j≤(arrOf st).size):Mv lo st (setArr st (mirror (arrOf st) i j ((j - i) / 2))) :=
 ⟨mirror_perm _ _ _ _,fun k hk=>by
  show (mirror (arrOf st) i j ((j - i) / 2))[k]? = _
  rw [getElem?_mirror_all hj,if_neg (by omega)],rfl,rfl,rfl⟩
theorem mv_bub {lo k l:Nat} {st:SortSt} (hl:lo≤l) (hlk:l≤k) (hk:k < (arrOf st).size):Mv lo st (setArr st (bubble (arrOf st) k (k - l))) :=
 ⟨bubble_perm _ _ _,fun i hi=>by
  show (bubble (arrOf st) k (k - l))[i]? = _
  rw [getElem?_bubble hk _ (Nat.sub_le _ _),if_neg (by omega),if_neg (by omega)],rfl,rfl,rfl⟩
section
variable {M:Model} {A:Around} {E:Value→Shared→Prop} {s:Shared} {κ:SortKind} {key:Keyed→Pt} {Itm:Keyed→Prop} {n:Nat}
theorem elem_ok {arr:Array Keyed} {i:Nat} {x:Keyed} {st:SortSt} {Q:Keyed→SortSt→Prop} (h:arr[i]? = some x) (k:Q x st):wpS M A E s (elem' arr i) Q st:=by
 rw [elem'_eq,h]; exact wpS_pure k
theorem ltAt_ok (C:Cp M A E s κ key Itm) {st:SortSt} (o:Ok κ Itm n st) {i j:Nat} (hi:i < n) (hj:j < n) {Q:Option Bool→SortSt→Prop} (h:Q (some (ltP (ky key (arrOf st) i) (ky key (arrOf st) j))) st):wpS M A E s (ltAt' i j) Q st:=by
 obtain ⟨x,e1,i1,k1⟩:=o.at hi key
 obtain ⟨y,e2,i2,k2⟩:=o.at hj key
 rw [ltAt'_eq]
 refine wpS_bind (wpS_get ?_)
 refine wpS_bind (elem_ok e1 (wpS_bind (elem_ok e2 (C.lt o.kind i1 i2 ?_))))
 rw [← k1,← k2]; exact h
theorem rev_ok {st:SortSt} {i j:Nat} {Q:Unit→SortSt→Prop} (h:Q () (setArr st (mirror (arrOf st) i j ((j - i) / 2)))):wpS M A E s (reverseSlice' i j) Q st:=by
 rw [reverseSlice'_eq]; exact wpS_modify h
def ascL (lo a nrem:Nat):StateT SortSt Sem AscSt:=forIn [a:nrem] ((none,a):AscSt) fun _ c =>
 ltAt' (lo+c.2) (lo+c.2 - 1) >>= fun x=>match x with
  | some d=>if d = true then pure (.done (none,c.2)) else pure (.yield (none,c.2+1))
  | _=>pure (.done (some none,c.2))
def tailL (lo n nrem:Nat):StateT SortSt Sem (Option Nat):=reverseSlice' lo (lo+n) >>= fun _=>ascL lo n nrem >>= fun c=>match c.1 with
 | some r=>pure r
 | none=>pure (some c.2)
def descL (lo n nrem:Nat):StateT SortSt Sem DescSt:=forIn [n:nrem] ((none,n,0):DescSt) fun _ c =>
 ltAt' (lo+c.2.1) (lo+c.2.1 - 1) >>= fun x=>match x with
  | some d =>
   if d = true then
    if c.2.2 > 0 then reverseSlice' (lo+c.2.1 - (c.2.2+1)) (lo+c.2.1) >>= fun _=>pure (.yield (none,c.2.1+1,0))
    else pure (.yield (none,c.2.1+1,0))
   else ltAt' (lo+c.2.1 - 1) (lo+c.2.1) >>= fun y=>match y with
    | some e=>if e = true then pure (.done (none,c.2.1,c.2.2)) else pure (.yield (none,c.2.1+1,c.2.2+1))
    | _=>pure (.done (some none,c.2.1,c.2.2))
  | _=>pure (.done (some none,c.2.1,c.2.2))
def partL (lo n nrem:Nat):StateT SortSt Sem (Option Nat):=liftM (rule "list.sort.descending-run") >>= fun _=>descL lo (n+1) nrem >>= fun c=>match c.1 with
 | some r=>pure r
 | none =>
  if c.2.2 > 0 then reverseSlice' (lo+c.2.1 - (c.2.2+1)) (lo+c.2.1) >>= fun _=>tailL lo c.2.1 nrem
  else tailL lo c.2.1 nrem
set_option smartUnfolding false in
theorem count_eq (lo nrem:Nat):countRun' lo nrem = (ascL lo 1 nrem >>= fun c=>match c.1 with
 | some r=>pure r
 | none =>
  if (c.2 == nrem) = true then pure (some c.2)
  else if c.2 > 1 then ltAt' lo (lo+c.2 - 1) >>= fun x=>match x with
   | some d=>if d = true then pure (some c.2) else reverseSlice' lo (lo+c.2) >>= fun _=>partL lo c.2 nrem
   | _=>pure none
  else partL lo c.2 nrem):=rfl
theorem ascL_ok (C:Cp M A E s κ key Itm) {st:SortSt} (o:Ok κ Itm n st) {lo a nrem:Nat} (h1:1≤a) (ha:a≤nrem) (hn:lo+nrem≤n) (hs:Up key (arrOf st) lo (lo+a)) {Q:AscSt→SortSt→Prop}
  (h:∀ m,a≤m→m≤nrem→Up key (arrOf st) lo (lo+m)→(m = nrem∨ltP (ky key (arrOf st) (lo+m)) (ky key (arrOf st) (lo+m - 1)) = true)→Q (none,m) st):wpS M A E s (ascL lo a nrem) Q st:=by
 unfold ascL
 refine wpS_forRange (I:=fun x c st'=>st' = st∧c = (none,x)∧Up key (arrOf st) lo (lo+x)) ?step ?fin ⟨rfl,rfl,hs⟩
 case fin =>
  rintro c st' ⟨rfl,rfl,up1⟩
  rw [show max a nrem = nrem by omega] at up1 ⊢
  exact h nrem ha (Nat.le_refl _) up1 (.inl rfl)
 case step =>
  rintro x c st' ax xn ⟨rfl,rfl,up1⟩
  dsimp only
  refine wpS_bind (ltAt_ok C o (by omega) (by omega) ?_)
  cases e:ltP (ky key (arrOf st') (lo+x)) (ky key (arrOf st') (lo+x - 1)) with
  | true =>
   simp only [if_true]
   exact wpS_pure (h x ax (by omega) up1 (.inr e))
  | false =>
   simp only [Bool.false_eq_true,if_false]
   refine wpS_pure ⟨rfl,rfl,fun i j hi hij hj=>?_⟩
   by_cases hjx:j < lo+x
   ·exact up1 i j hi hij hjx
   ·have hj':j = lo+x:=by omega
    subst hj'
    by_cases hi':i = lo+x
    ·rw [hi']; exact le_refl' _
    ·exact le_tr (up1 i (lo+x - 1) hi (by omega) (by omega)) (le_of_nlt e)
theorem tailL_ok (C:Cp M A E s κ key Itm) {st:SortSt} (o:Ok κ Itm n st) {lo m nrem:Nat} (h1:1≤m) (hm:m≤nrem) (hn:lo+nrem≤n) (hs:Dn key (arrOf st) lo (lo+m)) {Q:Option Nat→SortSt→Prop}
  (h:∀ m' st',Mv lo st st'→1≤m'→m'≤nrem→Up key (arrOf st') lo (lo+m')→Q (some m') st'):wpS M A E s (tailL lo m nrem) Q st:=by
 unfold tailL
 have sz:lo+m≤(arrOf st).size:=by rw [o.size]; omega
 refine wpS_bind (rev_ok ?_)
 have mv:=mv_rev (st:=st) (i:=lo) (j:=lo+m) (Nat.le_refl lo) sz
 refine wpS_bind (ascL_ok C (o.mv mv) h1 hm hn (fun i j hi hij hj=>?_) fun m' a b c _=>wpS_pure (h m' _ mv (by omega) b c))
 show leP (ky key (mirror (arrOf st) lo (lo+m) ((lo+m - lo) / 2)) i) (ky key (mirror (arrOf st) lo (lo+m) ((lo+m - lo) / 2)) j) = true
 rw [ky_rev sz,ky_rev sz,if_pos (by omega),if_pos (by omega)]
 exact hs _ _ (by omega) (by omega) (by omega)
theorem descL_ok (C:Cp M A E s κ key Itm) {st:SortSt} (o:Ok κ Itm n st) {lo a nrem:Nat} (h1:1≤a) (ha:a≤nrem) (hn:lo+nrem≤n) (hs:Dn key (arrOf st) lo (lo+a)) {Q:DescSt→SortSt→Prop}
  (h:∀ m q st',Mv lo st st'→a≤m→m≤nrem→Dn key (arrOf st') lo (lo+m)→q+1≤m→(∀ i,lo+m - (q+1)≤i→i < lo+m→ky key (arrOf st') i = ky key (arrOf st') (lo+m - 1))→Q (none,m,q) st'):wpS M A E s (descL lo a nrem) Q st:=by
 unfold descL
 refine wpS_forRange (I:=fun x c st'=>∃ q,c = (none,x,q)∧Mv lo st st'∧Dn key (arrOf st') lo (lo+x)∧q+1≤x∧(∀ i,lo+x - (q+1)≤i→i < lo+x→ky key (arrOf st') i = ky key (arrOf st') (lo+x - 1))) ?step ?fin
  ⟨0,rfl,Mv.refl _,hs,by omega,fun i h1 h2=>by congr 1; omega⟩
 case fin =>
  rintro c st' ⟨q,rfl,mv,hd,hq,he⟩
  rw [show max a nrem = nrem by omega] at hd hq he ⊢
  exact h nrem q st' mv ha (Nat.le_refl _) hd hq he
 case step =>
  rintro x c st' hax hxn ⟨q,rfl,mv,hd,hq,he⟩
  dsimp only
  have o':=o.mv mv
  have sz:lo+x≤(arrOf st').size:=by rw [o'.size]; omega
  have ext:∀ p':Array Keyed,(∀ k,ky key p' k = ky key (arrOf st') k)→leP (ky key (arrOf st') (lo+x)) (ky key (arrOf st') (lo+x - 1)) = true→Dn key p' lo (lo+(x+1)):=fun p' hk hle i j hi hij hj=>by
   rw [hk,hk]
   by_cases hjm:j < lo+x
   ·exact hd i j hi hij hjm
   ·obtain rfl:j = lo+x:=by omega
    by_cases hi':i = lo+x
    ·rw [hi']; exact le_refl' _
    ·exact le_tr hle (hd i (lo+x - 1) hi (by omega) (by omega))
  refine wpS_bind (ltAt_ok C o' (by omega) (by omega) ?_)
  cases e:ltP (ky key (arrOf st') (lo+x)) (ky key (arrOf st') (lo+x - 1)) with
  | true =>
   simp only [if_true]
   by_cases hq0:q > 0
   ·rw [if_pos hq0]
    refine wpS_bind (rev_ok (wpS_pure ⟨0,rfl,mv.trans (mv_rev (by omega) sz),ext _ (ky_rev_eq sz he) (le_of_lt e),by omega,fun i h1 h2=>by congr 1; omega⟩))
   ·rw [if_neg hq0]
    exact wpS_pure ⟨0,rfl,mv,ext _ (fun _=>rfl) (le_of_lt e),by omega,fun i h1 h2=>by congr 1; omega⟩
  | false =>
   simp only [Bool.false_eq_true,if_false]
   refine wpS_bind (ltAt_ok C o' (by omega) (by omega) ?_)
   cases e2:ltP (ky key (arrOf st') (lo+x - 1)) (ky key (arrOf st') (lo+x)) with
   | true =>
    simp only [if_true]
    exact wpS_pure (h x q st' mv hax (by omega) hd hq he)
   | false =>
    simp only [Bool.false_eq_true,if_false]
    have eq:=eq_of_n e e2
    refine wpS_pure ⟨q+1,rfl,mv,ext _ (fun _=>rfl) (le_of_nlt e2),by omega,fun i h1 h2=>?_⟩
    rw [show lo+(x+1) - 1 = lo+x by omega]
    by_cases hk:i = lo+x
    ·rw [hk]
    ·rw [he i (by omega) (by omega),eq]
theorem partL_ok (C:Cp M A E s κ key Itm) {st:SortSt} (o:Ok κ Itm n st) {lo m nrem:Nat} (hm:m+1≤nrem) (hn:lo+nrem≤n) (hs:Dn key (arrOf st) lo (lo+(m+1))) {Q:Option Nat→SortSt→Prop}
  (h:∀ m' st',Mv lo st st'→1≤m'→m'≤nrem→Up key (arrOf st') lo (lo+m')→Q (some m') st'):wpS M A E s (partL lo m nrem) Q st:=by
 unfold partL
 refine wpS_bind (wpS_lift (wpAny_rule ⟨rfl,?_⟩))
 refine wpS_bind (descL_ok C o (by omega) hm hn hs fun m' q st' mv a b c d g=>?_)
 dsimp only
 have o':=o.mv mv
 have sz:lo+m'≤(arrOf st').size:=by rw [o'.size]; omega
 by_cases hq:q > 0
 ·rw [if_pos hq]
  have mv2:=mv_rev (lo:=lo) (st:=st') (i:=lo+m' - (q+1)) (j:=lo+m') (by omega) sz
  refine wpS_bind (rev_ok (tailL_ok C (o'.mv mv2) (by omega) b hn (fun i j hi hij hj=>?_) fun m2 st2 mv3=>h m2 st2 ((mv.trans mv2).trans mv3)))
  show leP (ky key (mirror (arrOf st') _ _ _) j) (ky key (mirror (arrOf st') _ _ _) i) = true
  rw [ky_rev_eq sz g,ky_rev_eq sz g]
  exact c i j hi hij hj
 ·rw [if_neg hq]
  exact tailL_ok C o' (by omega) b hn c fun m2 st2 mv3=>h m2 st2 (mv.trans mv3)
theorem count_ok (C:Cp M A E s κ key Itm) {st:SortSt} (o:Ok κ Itm n st) {lo nrem:Nat} (h1:1≤nrem) (hn:lo+nrem≤n) {Q:Option Nat→SortSt→Prop}
  (h:∀ m' st',Mv lo st st'→1≤m'→m'≤nrem→Up key (arrOf st') lo (lo+m')→Q (some m') st'):wpS M A E s (countRun' lo nrem) Q st:=by
 rw [count_eq]
 refine wpS_bind (ascL_ok C o (Nat.le_refl 1) h1 hn (fun i j hi hij hj=>by rw [show i = lo by omega,show j = lo by omega]; exact le_refl' _) fun m a b c d=>?_)
 dsimp only
 by_cases hmn:m = nrem
 ·rw [if_pos (by simpa using hmn)]
  exact wpS_pure (h m st (Mv.refl _) a b c)
 ·rw [if_neg (by simpa using hmn)]
  have dm:=d.resolve_left hmn
  have sz:lo+m≤(arrOf st).size:=by rw [o.size]; omega
  by_cases hm1:m > 1
  ·rw [if_pos hm1]
   refine wpS_bind (ltAt_ok C o (by omega) (by omega) ?_)
   cases e:ltP (ky key (arrOf st) lo) (ky key (arrOf st) (lo+m - 1)) with
   | true =>
    simp only [if_true]
    exact wpS_pure (h m st (Mv.refl _) a b c)
   | false =>
    simp only [Bool.false_eq_true,if_false]
    have alle:∀ k,lo≤k→k < lo+m→ky key (arrOf st) k = ky key (arrOf st) (lo+m - 1):=fun k hk1 hk=>leP_antisymm (c k (lo+m - 1) hk1 (by omega) (by omega)) (le_tr (le_of_nlt e) (c lo k (Nat.le_refl _) hk1 hk))
    have mv:=mv_rev (lo:=lo) (st:=st) (i:=lo) (j:=lo+m) (Nat.le_refl _) sz
    refine wpS_bind (rev_ok (partL_ok C (o.mv mv) (by omega) hn (fun i j hi hij hj=>?_) fun m2 st2 mv2=>h m2 st2 (mv.trans mv2)))
    show leP (ky key (mirror (arrOf st) _ _ _) j) (ky key (mirror (arrOf st) _ _ _) i) = true
    rw [ky_rev_eq sz alle,ky_rev_eq sz alle]
    by_cases hjm:j < lo+m
    ·rw [alle i hi (by omega),alle j (by omega) hjm]; exact le_refl' _
    ·obtain rfl:j = lo+m:=by omega
     by_cases hi':i = lo+m
     ·rw [hi']; exact le_refl' _
     ·rw [alle i hi (by omega)]; exact le_of_lt dm
  ·rw [if_neg hm1]
   have m1:m = 1:=by omega
   subst m1
   refine partL_ok C o (by omega) hn (fun i j hi hij hj=>?_) h
   by_cases hi':i = j
   ·rw [hi']; exact le_refl' _
   ·rw [show i = lo by omega,show j = lo+1 by omega]; exact le_of_lt dm
theorem bin_ok (C:Cp M A E s κ key Itm) {st:SortSt} (o:Ok κ Itm n st) {lo m ok:Nat} (hn:lo+m≤n) (hok:ok≤m) (hs:Up key (arrOf st) lo (lo+ok)) {Q:Bool→SortSt→Prop}
  (h:∀ st1,Mv lo st st1→Up key (arrOf st1) lo (lo+m)→Q true st1):wpS M A E s (binarySort' lo m ok) Q st:=by
 rw [binarySort'_eq]
 refine wpS_bind (wpS_mono (wpS_forRange (I:=fun k c st1=>c = (none,())∧Mv lo st st1∧Up key (arrOf st1) lo (lo+min k m))
  (Q:=fun c st1=>c = (none,())∧Mv lo st st1∧Up key (arrOf st1) lo (lo+m)) ?step ?fin ?init) ?post)
 case post =>
  rintro c st1 ⟨rfl,mv,up1⟩
  exact wpS_pure (h st1 mv up1)
 case init =>
  refine ⟨rfl,Mv.refl _,fun i j hi hij hj=>?_⟩
  by_cases h1:ok = 0
  ·have:i = j:=by omega
   subst this; exact le_refl' _
  ·exact hs i j hi hij (by omega)
 case fin =>
  rintro c st1 ⟨hc,mv,up1⟩
  refine ⟨hc,mv,?_⟩
  rwa [show min (max (max ok 1) m) m = m by omega] at up1
 case step =>
  rintro k c st1 ak kn ⟨rfl,mv,up1⟩
  rw [show min k m = k by omega] at up1
  have o':=o.mv mv
  refine wpS_bind (wpS_mono (wpS_forRange (I:=fun x c st2=>st2 = st1∧∃ l r,c = (none,l,r)∧l≤r∧r≤k∧r - l≤k - x ∧
    (∀ i,lo≤i→i < lo+l→leP (ky key (arrOf st1) i) (ky key (arrOf st1) (lo+k)) = true)∧(∀ i,lo+r≤i→i < lo+k→ltP (ky key (arrOf st1) (lo+k)) (ky key (arrOf st1) i) = true))
   (Q:=fun c st2=>st2 = st1∧∃ l r,c = (none,l,r)∧l≤k ∧
    (∀ i,lo≤i→i < lo+l→leP (ky key (arrOf st1) i) (ky key (arrOf st1) (lo+k)) = true)∧(∀ i,lo+l≤i→i < lo+k→ltP (ky key (arrOf st1) (lo+k)) (ky key (arrOf st1) i) = true)) ?go2 ?fin2 ?ini2) ?pos2)
  case ini2=>exact ⟨rfl,0,k,rfl,by omega,by omega,by omega,fun i h1 hi=>by omega,fun i h1 h2=>by omega⟩
  case fin2 =>
   rintro c st2 ⟨rfl,l,r,rfl,lr,rk,hm,low,upp⟩
   have:l = r:=by omega
   subst this
   exact ⟨rfl,l,l,rfl,rk,low,upp⟩
  case go2 =>
   rintro x c st2 _ xk ⟨rfl,l,r,rfl,lr,rk,hm,low,upp⟩
   dsimp only
   by_cases ge:l ≥ r
   ·rw [if_pos ge]
    have:l = r:=by omega
    subst this
    exact wpS_pure ⟨rfl,l,l,rfl,rk,low,upp⟩
   ·rw [if_neg ge]
    refine wpS_bind (ltAt_ok C o' (by omega) (by omega) ?_)
    cases e:ltP (ky key (arrOf st2) (lo+k)) (ky key (arrOf st2) (lo+(l+r) / 2)) with
    | true =>
     simp only [if_true]
     refine wpS_pure ⟨rfl,l,(l+r) / 2,rfl,by omega,by omega,by omega,low,fun i h1 h2=>?_⟩
     exact lt_le e (up1 _ _ (by omega) h1 h2)
    | false =>
     simp only [Bool.false_eq_true,if_false]
     refine wpS_pure ⟨rfl,(l+r) / 2+1,r,rfl,by omega,by omega,by omega,fun i h1 h2=>?_,upp⟩
     exact le_tr (up1 i (lo+(l+r) / 2) h1 (by omega) (by omega)) (le_of_nlt e)
  case pos2 =>
   rintro c st2 ⟨rfl,l,r,rfl,lk,low,upp⟩
   show wpS _ _ _ _ (do moveDown' (lo+k) (lo+l); pure (ForInStep.yield (none,()))) _ _
   rw [moveDown'_eq]
   have hks:lo+k < (arrOf st2).size:=by rw [o'.size]; omega
   refine wpS_bind (wpS_modify (wpS_pure ⟨rfl,mv.trans (mv_bub (by omega) (by omega) hks),?_⟩))
   rw [show min (k+1) m = k+1 by omega]
   intro i j hi hij hj
   show leP (ky key (bubble (arrOf st2) (lo+k) (lo+k - (lo+l))) i) (ky key (bubble (arrOf st2) (lo+k) (lo+k - (lo+l))) j) = true
   rw [ky_bub hks (by omega),ky_bub hks (by omega)]
   repeat' split
   all_goals first
    | (exfalso; omega)
    | exact le_refl' _
    | exact low _ (by omega) (by omega)
    | exact le_of_lt (upp _ (by omega) (by omega))
    | exact up1 _ _ (by omega) (by omega) (by omega)
end
end SrtB
set_option maxRecDepth 100000
namespace SrtB
open PySem PySem.W PyProof.Rows Geo Srt
def beyM (left:Bool) (key:Keyed) (arr:Array Keyed) (i:Nat):StateT SortSt Sem (Option Bool):=elem' arr i >>= fun x =>
 if left = true then lt' x key else lt' key x >>= fun d=>pure (d.map fun c=>!c)
abbrev BS:=Option (Option Nat)×Nat×Nat
def bisL (left:Bool) (key:Keyed) (arr:Array Keyed) (base n lo hi:Nat):StateT SortSt Sem (Option Nat) :=
 forIn [0:n] ((none,lo,hi):BS) (fun _ c =>
  if c.2.1 ≥ c.2.2 then pure (.done (none,c.2.1,c.2.2))
  else beyM left key arr (base+(c.2.1+(c.2.2 - c.2.1) / 2)) >>= fun x=>match x with
   | some d=>if d = true then pure (.yield (none,c.2.1+(c.2.2 - c.2.1) / 2+1,c.2.2)) else pure (.yield (none,c.2.1,c.2.1+(c.2.2 - c.2.1) / 2))
   | _=>pure (.done (some none,c.2.1,c.2.2))) >>= fun c=>match c.1 with
 | some r=>pure r
 | none=>pure (some c.2.2)
def upL (left:Bool) (key:Keyed) (arr:Array Keyed) (base n hint:Nat):StateT SortSt Sem BS :=
 forIn [0:n] ((none,0,1):BS) fun _ c =>
  if c.2.2 ≥ n - hint then pure (.done (none,c.2.1,c.2.2))
  else beyM left key arr (base+(hint+c.2.2)) >>= fun x=>match x with
   | some d=>if (!d) = true then pure (.done (none,c.2.1,c.2.2)) else pure (.yield (none,c.2.2,2 * c.2.2+1))
   | _=>pure (.done (some none,c.2.1,c.2.2))
def downL (left:Bool) (key:Keyed) (arr:Array Keyed) (base n hint:Nat):StateT SortSt Sem BS :=
 forIn [0:n] ((none,0,1):BS) fun _ c =>
  if c.2.2 ≥ hint+1 then pure (.done (none,c.2.1,c.2.2))
  else beyM left key arr (base+(hint - c.2.2)) >>= fun x=>match x with
   | some d=>if d = true then pure (.done (none,c.2.1,c.2.2)) else pure (.yield (none,c.2.2,2 * c.2.2+1))
   | _=>pure (.done (some none,c.2.1,c.2.2))
def gallop':Bool→Keyed→Array Keyed→Nat→Nat→Nat→StateT SortSt Sem (Option Nat):=sortPriv% PySem.Builtin.gallop
set_option smartUnfolding false in
theorem gallop'_eq (left:Bool) (key:Keyed) (arr:Array Keyed) (base n hint:Nat):gallop' left key arr base n hint = (beyM left key arr (base+hint) >>= fun x=>match x with
 | some d =>
  if d = true then upL left key arr base n hint >>= fun c=>match c.1 with
   | some r=>pure r
   | none=>bisL left key arr base n (hint+c.2.1+1) (hint+min c.2.2 (n - hint))
  else downL left key arr base n hint >>= fun c=>match c.1 with
   | some r=>pure r
   | none=>bisL left key arr base n (hint+1 - min c.2.2 (hint+1)) (hint - c.2.1)
 | _=>pure none):=rfl
def bey (key:Keyed→Pt) (left:Bool) (k x:Keyed):Bool:=if left = true then ltP (key x) (key k) else !ltP (key k) (key x)
def beyAt (key:Keyed→Pt) (left:Bool) (k:Keyed) (arr:Array Keyed) (i:Nat):Bool:=bey key left k (arr.getD i (Value.none,Value.none))
section
variable {M:Model} {A:Around} {E:Value→Shared→Prop} {s:Shared} {κ:SortKind} {key:Keyed→Pt} {Itm:Keyed→Prop}
theorem bey_ok (C:Cp M A E s κ key Itm) {st:SortSt} (hk:kindOf st = κ) {left:Bool} {k:Keyed} {arr:Array Keyed} {i:Nat} (hi:i < arr.size) (ia:∀ x ∈ arr,Itm x) (ik:Itm k) {Q:Option Bool→SortSt→Prop} (h:Q (some (beyAt key left k arr i)) st) :
  wpS M A E s (beyM left k arr i) Q st:=by
 unfold beyM
 refine wpS_bind (elem_ok (getElem?_pos _ i hi) ?_)
 have ix:=ia _ (Array.getElem_mem hi)
 have e:arr.getD i (Value.none,Value.none) = arr[i]:=by simp [Array.getD,hi]
 unfold beyAt bey at h
 rw [e] at h
 cases left with
 | true =>
  simp only [if_true] at h ⊢
  exact C.lt hk ix ik h
 | false =>
  simp only [Bool.false_eq_true,if_false] at h ⊢
  exact wpS_bind (C.lt hk ik ix (wpS_pure h))
theorem gallop_ok (C:Cp M A E s κ key Itm) {st:SortSt} (hk:kindOf st = κ) {left:Bool} {k:Keyed} {arr:Array Keyed} {base n hint:Nat} (hh:hint < n) (hz:base+n≤arr.size) (ia:∀ x ∈ arr,Itm x) (ik:Itm k)
  (mono:∀ i j,i≤j→j < n→beyAt key left k arr (base+j) = true→beyAt key left k arr (base+i) = true) {Q:Option Nat→SortSt→Prop}
  (h:∀ r,r≤n→(∀ i,i < r→beyAt key left k arr (base+i) = true)→(∀ i,r≤i→i < n→beyAt key left k arr (base+i) = false)→Q (some r) st):wpS M A E s (gallop' left k arr base n hint) Q st:=by
 have nmono:∀ i j,i≤j→j < n→beyAt key left k arr (base+i) = false→beyAt key left k arr (base+j) = false:=fun i j hij hj e=>by
  cases e2:beyAt key left k arr (base+j) with
  | false=>rfl
  | true=>rw [mono i j hij hj e2] at e; cases e
 have last:∀ lo hi,lo≤hi→hi≤n→(∀ i,i < lo→beyAt key left k arr (base+i) = true)→(∀ i,hi≤i→i < n→beyAt key left k arr (base+i) = false)→wpS M A E s (bisL left k arr base n lo hi) Q st:=by
  intro lo hi a b c d
  unfold bisL
  refine wpS_bind (wpS_mono (wpS_forRange (I:=fun x c st'=>st' = st∧∃ lo hi,c = (none,lo,hi)∧lo≤hi∧hi≤n∧hi - lo≤n - x∧(∀ i,i < lo→beyAt key left k arr (base+i) = true)∧(∀ i,hi≤i→i < n→beyAt key left k arr (base+i) = false))
   (Q:=fun c st'=>st' = st∧∃ lo hi,c = (none,lo,hi)∧lo = hi∧hi≤n∧(∀ i,i < lo→beyAt key left k arr (base+i) = true)∧(∀ i,hi≤i→i < n→beyAt key left k arr (base+i) = false)) ?step ?fin ⟨rfl,lo,hi,rfl,a,b,by omega,c,d⟩) ?post)
  case post =>
   rintro _ _ ⟨rfl,lo,hi,rfl,rfl,b,c,d⟩
   exact wpS_pure (h lo b c d)
  case fin =>
   rintro _ _ ⟨rfl,lo,hi,rfl,a,b,e,c,d⟩
   exact ⟨rfl,lo,hi,rfl,by omega,b,c,d⟩
  case step =>
   rintro x _ _ _ hx ⟨rfl,lo,hi,rfl,a,b,e,c,d⟩
   dsimp only
   by_cases hge:lo ≥ hi
   ·rw [if_pos hge]
    exact wpS_pure ⟨rfl,lo,hi,rfl,by omega,b,c,d⟩
   ·rw [if_neg hge]
    refine wpS_bind (bey_ok C hk (by omega) ia ik ?_)
    cases e2:beyAt key left k arr (base+(lo+(hi - lo) / 2)) with
    | true =>
     simp only [if_true]
     exact wpS_pure ⟨rfl,_,_,rfl,by omega,b,by omega,fun i hi'=>mono i _ (by omega) (by omega) e2,d⟩
    | false =>
     simp only [Bool.false_eq_true,if_false]
     exact wpS_pure ⟨rfl,_,_,rfl,by omega,by omega,by omega,c,fun i h1 h2=>nmono _ i h1 h2 e2⟩
 rw [gallop'_eq]
 refine wpS_bind (bey_ok C hk (by omega) ia ik ?_)
 cases e0:beyAt key left k arr (base+hint) with
 | true =>
  simp only [if_true]
  unfold upL
  refine wpS_bind (wpS_mono (wpS_forRange (I:=fun x c st'=>st' = st∧∃ l o,c = (none,l,o)∧l < o∧x < o∧hint+l < n∧beyAt key left k arr (base+(hint+l)) = true)
   (Q:=fun c st'=>st' = st∧∃ l o,c = (none,l,o)∧l < o∧hint+l < n∧beyAt key left k arr (base+(hint+l)) = true∧(n - hint≤o∨beyAt key left k arr (base+(hint+o)) = false)) ?step ?fin ⟨rfl,0,1,rfl,by omega,by omega,by omega,e0⟩) ?post)
  case post =>
   rintro _ _ ⟨rfl,l,o,rfl,a,b,c,d⟩
   refine last (hint+l+1) (hint+min o (n - hint)) (by omega) (by omega) (fun i hi=>mono i _ (by omega) b c) fun i h1 h2=>?_
   rcases d with d | d
   ·omega
   ·by_cases hb:hint+o < n
    ·exact nmono _ i (by omega) h2 d
    ·omega
  case fin =>
   rintro _ _ ⟨rfl,l,o,rfl,a,b,c,d⟩
   exact ⟨rfl,l,o,rfl,a,c,d,.inl (by omega)⟩
  case step =>
   rintro x _ _ _ hx ⟨rfl,l,o,rfl,a,b,c,d⟩
   dsimp only
   by_cases hge:o ≥ n - hint
   ·rw [if_pos hge]
    exact wpS_pure ⟨rfl,l,o,rfl,a,c,d,.inl hge⟩
   ·rw [if_neg hge]
    refine wpS_bind (bey_ok C hk (by omega) ia ik ?_)
    cases e2:beyAt key left k arr (base+(hint+o)) with
    | true =>
     simp only [Bool.not_true,Bool.false_eq_true,if_false]
     exact wpS_pure ⟨rfl,_,_,rfl,by omega,by omega,by omega,e2⟩
    | false =>
     simp only [Bool.not_false,if_true]
     exact wpS_pure ⟨rfl,l,o,rfl,a,c,d,.inr e2⟩
 | false =>
  simp only [Bool.false_eq_true,if_false]
  unfold downL
  refine wpS_bind (wpS_mono (wpS_forRange (I:=fun x c st'=>st' = st∧∃ l o,c = (none,l,o)∧l < o∧x < o∧l≤hint∧beyAt key left k arr (base+(hint - l)) = false)
   (Q:=fun c st'=>st' = st∧∃ l o,c = (none,l,o)∧l < o∧l≤hint∧beyAt key left k arr (base+(hint - l)) = false∧(hint+1≤o∨beyAt key left k arr (base+(hint - o)) = true)) ?step ?fin ⟨rfl,0,1,rfl,by omega,by omega,by omega,e0⟩) ?post)
  case post =>
   rintro _ _ ⟨rfl,l,o,rfl,a,b,c,d⟩
   refine last (hint+1 - min o (hint+1)) (hint - l) (by omega) (by omega) (fun i hi=>?_) fun i h1 h2=>nmono _ i (by omega) h2 c
   rcases d with d | d
   ·omega
   ·exact mono i _ (by omega) (by omega) d
  case fin =>
   rintro _ _ ⟨rfl,l,o,rfl,a,b,c,d⟩
   exact ⟨rfl,l,o,rfl,a,c,d,.inl (by omega)⟩
  case step =>
   rintro x _ _ _ hx ⟨rfl,l,o,rfl,a,b,c,d⟩
   dsimp only
   by_cases hge:o ≥ hint+1
   ·rw [if_pos hge]
    exact wpS_pure ⟨rfl,l,o,rfl,a,c,d,.inl hge⟩
   ·rw [if_neg hge]
    refine wpS_bind (bey_ok C hk (by omega) ia ik ?_)
    cases e2:beyAt key left k arr (base+(hint - o)) with
    | true =>
     simp only [if_true]
     exact wpS_pure ⟨rfl,l,o,rfl,a,c,d,.inr e2⟩
    | false =>
     simp only [Bool.false_eq_true,if_false]
     exact wpS_pure ⟨rfl,_,_,rfl,by omega,by omega,by omega,e2⟩
end
end SrtB
set_option maxRecDepth 100000
namespace SrtB
open PySem PySem.W PyProof.Rows Geo Srt
def setG (g:Nat):StateT SortSt Sem Unit:=modify fun s=>SortSt.mk' (kindOf s) (arrOf s) (pendingOf s) g (failedOf s)
def mergeLo':Array Keyed→Array Keyed→StateT SortSt Sem (Array Keyed):=sortPriv% PySem.Builtin.mergeLo
def doneLo (a b out:Array Keyed) (ia ib:Nat):Array Keyed:=out++a.extract ia a.size++b.extract ib b.size
def lastLo (a b out:Array Keyed) (ia ib:Nat):Array Keyed:=out++b.extract ib b.size++a.extract ia a.size
def Le (key:Keyed→Pt) (x y:Keyed):Prop:=leP (key x) (key y) = true
theorem Le.tr {key:Keyed→Pt} {x y z:Keyed} (h:Le key x y) (k:Le key y z):Le key x z:=le_tr h k
structure MI (key:Keyed→Pt) (L out ra rb:List Keyed):Prop where
 perm:(out++(ra++rb)).Perm L
 so:out.Pairwise (Le key)
 sa:ra.Pairwise (Le key)
 sb:rb.Pairwise (Le key)
 oa:∀ x ∈ out,∀ y ∈ ra,Le key x y
 ob:∀ x ∈ out,∀ y ∈ rb,Le key x y
section
variable {key:Keyed→Pt} {L out ra rb u:List Keyed}
theorem MI.goA (h:MI key L out (u++ra) rb) (k:∀ x ∈ u,∀ y ∈ rb,Le key x y):MI key L (out++u) ra rb:=by
 have sa:=List.pairwise_append.mp h.sa
 refine ⟨by simpa using h.perm,List.pairwise_append.mpr ⟨h.so,sa.1,fun x hx y hy=>h.oa x hx y (List.mem_append_left _ hy)⟩,sa.2.1,h.sb,fun x hx y hy=>?_,fun x hx y hy=>?_⟩
 ·rcases List.mem_append.mp hx with z | z
  ·exact h.oa x z y (List.mem_append_right _ hy)
  ·exact sa.2.2 x z y hy
 ·rcases List.mem_append.mp hx with z | z
  ·exact h.ob x z y hy
  ·exact k x z y hy
theorem MI.goB (h:MI key L out ra (u++rb)) (k:∀ x ∈ u,∀ y ∈ ra,Le key x y):MI key L (out++u) ra rb:=by
 have sb:=List.pairwise_append.mp h.sb
 refine ⟨?_,List.pairwise_append.mpr ⟨h.so,sb.1,fun x hx y hy=>h.ob x hx y (List.mem_append_left _ hy)⟩,h.sa,sb.2.1,fun x hx y hy=>?_,fun x hx y hy=>?_⟩
 ·refine List.Perm.trans ?_ h.perm
  rw [List.append_assoc]
  refine List.Perm.append_left _ ?_
  rw [← List.append_assoc,← List.append_assoc]
  exact List.Perm.append_right _ List.perm_append_comm
 ·rcases List.mem_append.mp hx with z | z
  ·exact h.oa x z y hy
  ·exact k x z y hy
 ·rcases List.mem_append.mp hx with z | z
  ·exact h.ob x z y (List.mem_append_right _ hy)
  ·exact sb.2.2 x z y hy
theorem MI.endA (h:MI key L out ra rb) (k:∀ x ∈ ra,∀ y ∈ rb,Le key x y):(out++ra++rb).Perm L∧(out++ra++rb).Pairwise (Le key):=by
 refine ⟨by rw [List.append_assoc]; exact h.perm,?_⟩
 rw [List.append_assoc]
 refine List.pairwise_append.mpr ⟨h.so,List.pairwise_append.mpr ⟨h.sa,h.sb,k⟩,fun x hx y hy=>?_⟩
 rcases List.mem_append.mp hy with z | z
 ·exact h.oa x hx y z
 ·exact h.ob x hx y z
theorem MI.endB (h:MI key L out ra rb) (k:∀ x ∈ rb,∀ y ∈ ra,Le key x y):(out++rb++ra).Perm L∧(out++rb++ra).Pairwise (Le key):=by
 refine ⟨?_,?_⟩
 ·rw [List.append_assoc]
  exact (List.Perm.append_left _ List.perm_append_comm).trans h.perm
 rw [List.append_assoc]
 refine List.pairwise_append.mpr ⟨h.so,List.pairwise_append.mpr ⟨h.sb,h.sa,k⟩,fun x hx y hy=>?_⟩
 rcases List.mem_append.mp hy with z | z
 ·exact h.ob x hx y z
 ·exact h.oa x hx y z
end
theorem arr_at {a:Array Keyed} {i:Nat} (h:i < a.size):a.toList.drop i = [a[i]]++a.toList.drop (i+1):=by
 rw [List.drop_eq_getElem_cons (by simpa using h)]; simp
theorem arr_cut {a:Array Keyed} {i k:Nat}:a.toList.drop i = (a.extract i (i+k)).toList++a.toList.drop (i+k):=by
 rw [Array.toList_extract,List.extract_eq_take_drop,show i+k - i = k by omega,← List.drop_drop,List.take_append_drop]
theorem arr_rest {a:Array Keyed} {i:Nat}:(a.extract i a.size).toList = a.toList.drop i:=by
 rw [Array.toList_extract,List.extract_eq_take_drop]
 exact List.take_of_length_le (by simp)
theorem cut_mem {a:Array Keyed} {i k:Nat} {x:Keyed} (h:x ∈ (a.extract i (i+k)).toList):∃ j,j < k∧∃ hj:i+j < a.size,a[i+j] = x:=by
 obtain ⟨j,hj,e⟩:=List.mem_iff_getElem.mp h
 simp at hj
 refine ⟨j,by omega,by omega,?_⟩
 rw [← e]; simp
theorem drop_mem {a:Array Keyed} {i:Nat} {x:Keyed} (h:x ∈ a.toList.drop i):∃ j,∃ hj:i+j < a.size,a[i+j] = x:=by
 obtain ⟨j,hj,e⟩:=List.mem_iff_getElem.mp h
 simp at hj
 exact ⟨j,by omega,by rw [← e]; simp⟩
theorem srt_at {key:Keyed→Pt} {a:Array Keyed} (h:a.toList.Pairwise (Le key)) {i j:Nat} (hij:i≤j) (hj:j < a.size):Le key (a[i]'(by omega)) a[j]:=by
 by_cases e:i = j
 ·subst e; exact le_refl' _
 ·have:=List.pairwise_iff_getElem.mp h i j (by simp; omega) (by simpa using hj) (by omega)
  simpa using this
theorem bey_false {key:Keyed→Pt} {k:Keyed} {a:Array Keyed} {i:Nat} (h:i < a.size):beyAt key false k a i = leP (key a[i]) (key k):=by
 unfold beyAt bey
 rw [show a.getD i (Value.none,Value.none) = a[i] by simp [Array.getD,h]]
 simp [leP]
theorem bey_true {key:Keyed→Pt} {k:Keyed} {a:Array Keyed} {i:Nat} (h:i < a.size):beyAt key true k a i = ltP (key a[i]) (key k):=by
 unfold beyAt bey
 rw [show a.getD i (Value.none,Value.none) = a[i] by simp [Array.getD,h]]
 simp
theorem le_of_nle {a b:Pt} (h:leP a b = false):leP b a = true:=by
 cases e:leP b a with
 | true=>rfl
 | false=>unfold leP at h e; simp at h e; rw [ltP_iff] at h e; omega
theorem gal_false {M:Model} {A:Around} {E:Value→Shared→Prop} {s:Shared} {κ:SortKind} {key:Keyed→Pt} {Itm:Keyed→Prop} (C:Cp M A E s κ key Itm) {st:SortSt} (hk:kindOf st = κ) {k:Keyed} {a:Array Keyed} (hs:a.toList.Pairwise (Le key)) {base n hint:Nat} (hh:hint < n) (hz:base+n≤a.size) (ia:∀ x ∈ a,Itm x) (ik:Itm k) {Q:Option Nat→SortSt→Prop}
  (h:∀ r,r≤n→(∀ i (_:i < r) (hi:base+i < a.size),Le key a[base+i] k)→(∀ i (_:r≤i) (_:i < n) (hi:base+i < a.size),Le key k a[base+i])→Q (some r) st):wpS M A E s (gallop' false k a base n hint) Q st:=by
 refine gallop_ok C hk hh hz ia ik (fun i j hij hj e=>?_) fun r hr h1 h2=>h r hr (fun i hi hb=>?_) fun i hi hin hb=>?_
 ·rw [bey_false (by omega)] at e ⊢
  exact le_tr (srt_at hs (show base+i≤base+j by omega) (by omega)) e
 ·have:=h1 i hi
  rw [bey_false hb] at this
  exact this
 ·have:=h2 i hi hin
  rw [bey_false hb] at this
  exact le_of_nle this
theorem gal_true {M:Model} {A:Around} {E:Value→Shared→Prop} {s:Shared} {κ:SortKind} {key:Keyed→Pt} {Itm:Keyed→Prop} (C:Cp M A E s κ key Itm) {st:SortSt} (hk:kindOf st = κ) {k:Keyed} {a:Array Keyed} (hs:a.toList.Pairwise (Le key)) {base n hint:Nat} (hh:hint < n) (hz:base+n≤a.size) (ia:∀ x ∈ a,Itm x) (ik:Itm k) {Q:Option Nat→SortSt→Prop}
  (h:∀ r,r≤n→(∀ i (_:i < r) (hi:base+i < a.size),Le key a[base+i] k)→(∀ i (_:r≤i) (_:i < n) (hi:base+i < a.size),Le key k a[base+i])→Q (some r) st):wpS M A E s (gallop' true k a base n hint) Q st:=by
 refine gallop_ok C hk hh hz ia ik (fun i j hij hj e=>?_) fun r hr h1 h2=>h r hr (fun i hi hb=>?_) fun i hi hin hb=>?_
 ·rw [bey_true (by omega)] at e ⊢
  exact le_lt (srt_at hs (show base+i≤base+j by omega) (by omega)) e
 ·have:=h1 i hi
  rw [bey_true hb] at this
  exact le_of_lt this
 ·have:=h2 i hi hin
  rw [bey_true hb] at this
  exact le_of_nlt this
def Res (key:Keyed→Pt) (a b r:Array Keyed):Prop:=r.toList.Perm (a.toList++b.toList)∧r.toList.Pairwise (Le key)
abbrev ML (key:Keyed→Pt) (a b out:Array Keyed) (ia ib:Nat):Prop:=MI key (a.toList++b.toList) out.toList (a.toList.drop ia) (b.toList.drop ib)
theorem done_res {key:Keyed→Pt} {a b out:Array Keyed} {ia ib:Nat} (h:ML key a b out ia ib) (hk:a.size≤ia∨b.size≤ib):Res key a b (doneLo a b out ia ib):=by
 have:=MI.endA h fun x hx y hy=>by
  rcases hk with z | z
  ·rw [List.drop_eq_nil_of_le (by simpa using z)] at hx; cases hx
  ·rw [List.drop_eq_nil_of_le (by simpa using z)] at hy; cases hy
 unfold Res doneLo
 rw [Array.toList_append,Array.toList_append,arr_rest,arr_rest]
 exact this
theorem last_res {key:Keyed→Pt} {a b out:Array Keyed} {ia ib:Nat} (h:ML key a b out ia ib) (hl:∀ y ∈ b.toList,∀ x ∈ a.toList.drop (a.size - 1),Le key y x) (hi:ia+1 = a.size):Res key a b (lastLo a b out ia ib):=by
 have:=MI.endB h fun x hx y hy=>hl x (List.mem_of_mem_drop hx) y (by rw [show a.size - 1 = ia by omega]; exact hy)
 unfold Res lastLo
 rw [Array.toList_append,Array.toList_append,arr_rest,arr_rest]
 exact this
theorem ML.pushA {key:Keyed→Pt} {a b out:Array Keyed} {ia ib:Nat} (h:ML key a b out ia ib) (hi:ia < a.size) (k:∀ y ∈ b.toList.drop ib,Le key a[ia] y):ML key a b (out.push a[ia]) (ia+1) ib:=by
 unfold ML at h ⊢
 rw [arr_at hi] at h
 rw [Array.toList_push]
 exact h.goA fun x hx y hy=>by rw [List.mem_singleton.mp hx]; exact k y hy
theorem ML.pushB {key:Keyed→Pt} {a b out:Array Keyed} {ia ib:Nat} (h:ML key a b out ia ib) (hi:ib < b.size) (k:∀ y ∈ a.toList.drop ia,Le key b[ib] y):ML key a b (out.push b[ib]) ia (ib+1):=by
 unfold ML at h ⊢
 rw [arr_at hi] at h
 rw [Array.toList_push]
 exact h.goB fun x hx y hy=>by rw [List.mem_singleton.mp hx]; exact k y hy
theorem ML.manyA {key:Keyed→Pt} {a b out:Array Keyed} {ia ib n:Nat} (h:ML key a b out ia ib) (k:∀ x ∈ (a.extract ia (ia+n)).toList,∀ y ∈ b.toList.drop ib,Le key x y):ML key a b (out++a.extract ia (ia+n)) (ia+n) ib:=by
 unfold ML at h ⊢
 rw [arr_cut (k:=n)] at h
 rw [Array.toList_append]
 exact h.goA k
theorem ML.manyB {key:Keyed→Pt} {a b out:Array Keyed} {ia ib n:Nat} (h:ML key a b out ia ib) (k:∀ x ∈ (b.extract ib (ib+n)).toList,∀ y ∈ a.toList.drop ia,Le key x y):ML key a b (out++b.extract ib (ib+n)) ia (ib+n):=by
 unfold ML at h ⊢
 rw [arr_cut (a:=b) (k:=n)] at h
 rw [Array.toList_append]
 exact h.goB k
structure Eg (st st':SortSt):Prop where
 arr:arrOf st' = arrOf st
 pend:pendingOf st' = pendingOf st
 kind:kindOf st' = kindOf st
 failed:failedOf st' = failedOf st
theorem Eg.refl (st:SortSt):Eg st st:=⟨rfl,rfl,rfl,rfl⟩
theorem Eg.trans {a b c:SortSt} (h:Eg a b) (k:Eg b c):Eg a c:=⟨k.arr.trans h.arr,k.pend.trans h.pend,k.kind.trans h.kind,k.failed.trans h.failed⟩
theorem setG_ok {M:Model} {A:Around} {E:Value→Shared→Prop} {s:Shared} {g:Nat} {st:SortSt} {Q:Unit→SortSt→Prop} (h:∀ st',Eg st st'→Q () st'):wpS M A E s (setG g) Q st:=wpS_modify (h _ ⟨rfl,rfl,rfl,rfl⟩)
abbrev GS:=Option (Array Keyed)×Array Keyed×Nat×Nat×Nat×Nat×Nat
abbrev IS:=Option (Array Keyed)×Array Keyed×Nat×Nat×Nat×Nat
abbrev OS:=Option (Array Keyed)×Array Keyed×Nat×Nat×Nat
def lo4 (a b out:Array Keyed) (ia ib mg k k1:Nat):StateT SortSt Sem (ForInStep GS):=do
 let x ← elem' a ia
 if (ia+1+1 == a.size) = true then pure (.done (some (lastLo a b (out.push x) (ia+1) ib),out.push x,ia+1,ib,mg,k,k1))
 else if (decide (k < 7) && decide (k1 < 7)) = true then pure (.done (none,out.push x,ia+1,ib,mg,k,k1))
 else pure (.yield (none,out.push x,ia+1,ib,mg,k,k1))
def lo3 (a b out:Array Keyed) (ia ib mg k bc:Nat):StateT SortSt Sem (ForInStep GS):=do
 let x ← elem' b ib
 if (ib+1 == b.size) = true then pure (.done (some (doneLo a b (out.push x) ia (ib+1)),out.push x,ia,ib+1,mg,k,bc))
 else do
  let y ← elem' a ia
  let r ← gallop' true y b (ib+1) (b.size - (ib+1)) 0
  match r with
  | some k1 =>
   if k1 > 0 then
    if (ib+1+k1 == b.size) = true then pure (.done (some (doneLo a b (out.push x++b.extract (ib+1) (ib+1+k1)) ia (ib+1+k1)),out.push x++b.extract (ib+1) (ib+1+k1),ia,ib+1+k1,mg,k,k1))
    else lo4 a b (out.push x++b.extract (ib+1) (ib+1+k1)) ia (ib+1+k1) mg k k1
   else lo4 a b (out.push x) ia (ib+1) mg k k1
  | _=>pure (.done (some (doneLo a b (out.push x) ia (ib+1)),out.push x,ia,ib+1,mg,k,bc))
def lo2 (a b out:Array Keyed) (ia ib mg ac bc:Nat):StateT SortSt Sem (ForInStep GS):=do
 setG mg
 let x ← elem' b ib
 let r ← gallop' false x a ia (a.size - ia) 0
 match r with
 | some k =>
  if k > 0 then
   if (ia+k+1 == a.size) = true then pure (.done (some (lastLo a b (out++a.extract ia (ia+k)) (ia+k) ib),out++a.extract ia (ia+k),ia+k,ib,mg,k,bc))
   else if (ia+k == a.size) = true then pure (.done (some (doneLo a b (out++a.extract ia (ia+k)) (ia+k) ib),out++a.extract ia (ia+k),ia+k,ib,mg,k,bc))
   else lo3 a b (out++a.extract ia (ia+k)) (ia+k) ib mg k bc
  else lo3 a b out ia ib mg k bc
 | _=>pure (.done (some (doneLo a b out ia ib),out,ia,ib,mg,ac,bc))
def lo1 (a b:Array Keyed) (c:GS):StateT SortSt Sem (ForInStep GS) :=
 if c.2.2.2.2.1 > 1 then lo2 a b c.2.1 c.2.2.1 c.2.2.2.1 (c.2.2.2.2.1 - 1) c.2.2.2.2.2.1 c.2.2.2.2.2.2 else lo2 a b c.2.1 c.2.2.1 c.2.2.2.1 c.2.2.2.2.1 c.2.2.2.2.2.1 c.2.2.2.2.2.2
def lo0 (a b:Array Keyed) (mg:Nat) (c:IS):StateT SortSt Sem (ForInStep IS):=do
 let x ← elem' b c.2.2.2.1
 let y ← elem' a c.2.2.1
 let r ← lt' x y
 match r with
 | some bWins =>
  if bWins = true then do
   let z ← elem' b c.2.2.2.1
   if (c.2.2.2.1+1 == b.size) = true then pure (.done (some (doneLo a b (c.2.1.push z) c.2.2.1 (c.2.2.2.1+1)),c.2.1.push z,c.2.2.1,c.2.2.2.1+1,0,c.2.2.2.2.2+1))
   else if c.2.2.2.2.2+1 ≥ mg then pure (.done (none,c.2.1.push z,c.2.2.1,c.2.2.2.1+1,0,c.2.2.2.2.2+1))
   else pure (.yield (none,c.2.1.push z,c.2.2.1,c.2.2.2.1+1,0,c.2.2.2.2.2+1))
  else do
   let z ← elem' a c.2.2.1
   if (c.2.2.1+1+1 == a.size) = true then pure (.done (some (lastLo a b (c.2.1.push z) (c.2.2.1+1) c.2.2.2.1),c.2.1.push z,c.2.2.1+1,c.2.2.2.1,c.2.2.2.2.1+1,0))
   else if c.2.2.2.2.1+1 ≥ mg then pure (.done (none,c.2.1.push z,c.2.2.1+1,c.2.2.2.1,c.2.2.2.2.1+1,0))
   else pure (.yield (none,c.2.1.push z,c.2.2.1+1,c.2.2.2.1,c.2.2.2.2.1+1,0))
 | _=>pure (.done (some (doneLo a b c.2.1 c.2.2.1 c.2.2.2.1),c.2.1,c.2.2.1,c.2.2.2.1,c.2.2.2.2.1,c.2.2.2.2.2))
set_option smartUnfolding false in
theorem mergeLo'_eq (a b:Array Keyed):mergeLo' a b = (do
 liftM (rule "list.sort.merge-lo")
 let x ← elem' b 0
 if (1 == b.size) = true then pure (doneLo a b #[x] 0 1)
 else if (0+1 == a.size) = true then pure (lastLo a b #[x] 0 1)
 else do
  let st ← get
  let c ← forIn [0:a.size+b.size] ((none,#[x],0,1,gallopOf st):OS) fun _ c=>do
   let d ← forIn [0:a.size+b.size] ((none,c.2.1,c.2.2.1,c.2.2.2.1,0,0):IS) fun _ d=>lo0 a b c.2.2.2.2 d
   match d.1 with
   | some r=>pure (.done (some r,d.2.1,d.2.2.1,d.2.2.2.1,c.2.2.2.2))
   | none=>do
    liftM (rule "list.sort.gallop")
    let g ← forIn [0:a.size+b.size] ((none,d.2.1,d.2.2.1,d.2.2.2.1,c.2.2.2.2+1,d.2.2.2.2.1,d.2.2.2.2.2):GS) fun _ g=>lo1 a b g
    match g.1 with
    | some r=>pure (.done (some r,g.2.1,g.2.2.1,g.2.2.2.1,g.2.2.2.2.1))
    | none=>do
     setG (g.2.2.2.2.1+1)
     pure (.yield (none,g.2.1,g.2.2.1,g.2.2.2.1,g.2.2.2.2.1+1))
  match c.1 with
  | some r=>pure r
  | none=>liftM (unsupported "internal:list.sort.merge-bound")):=by
 rfl
end SrtB
set_option maxRecDepth 100000
namespace SrtB
open PySem PySem.W PyProof.Rows Geo Srt
structure Mg (Itm:Keyed→Prop) (key:Keyed→Pt) (a b:Array Keyed):Prop where
 ia:∀ x ∈ a,Itm x
 ib:∀ x ∈ b,Itm x
 sa:a.toList.Pairwise (Le key)
 sb:b.toList.Pairwise (Le key)
 hl:∀ y ∈ b.toList,∀ x ∈ a.toList.drop (a.size - 1),Le key y x
 hf:∀ x ∈ a.toList,∀ y ∈ b.toList.take 1,Le key y x
 na:0 < a.size
 nb:0 < b.size
section
variable {M:Model} {A:Around} {E:Value→Shared→Prop} {s:Shared} {κ:SortKind} {key:Keyed→Pt} {Itm:Keyed→Prop} {a b:Array Keyed}
structure Ends (key:Keyed→Pt) (a b:Array Keyed) (y:Nat) (st:SortSt) (R:ForInStep GS→SortSt→Prop):Prop where
 ret:∀ st' r c',Eg st st'→Res key a b r→R (.done (some r,c')) st'
 go:∀ st' out ia ib mg ac bc,Eg st st'→ML key a b out ia ib→ia+1 < a.size→ib < b.size→y+1≤ia+ib→R (.done (none,out,ia,ib,mg,ac,bc)) st'∧R (.yield (none,out,ia,ib,mg,ac,bc)) st'
theorem Ends.eg {y:Nat} {st st':SortSt} {R:ForInStep GS→SortSt→Prop} (e:Ends key a b y st R) (h:Eg st st'):Ends key a b y st' R :=
 ⟨fun s2 r c' k=>e.ret s2 r c' (h.trans k),fun s2 out ia ib mg ac bc k=>e.go s2 out ia ib mg ac bc (h.trans k)⟩
theorem lo4_ok (m:Mg Itm key a b) {st:SortSt} {out:Array Keyed} {ia ib mg k k1 y:Nat} (h:ML key a b out ia ib) (hi:ia+1 < a.size) (hj:ib < b.size) (hk:∀ y ∈ b.toList.drop ib,Le key a[ia] y) (hy:y≤ia+ib) {R:ForInStep GS→SortSt→Prop} (e:Ends key a b y st R):wpS M A E s (lo4 a b out ia ib mg k k1) R st:=by
 unfold lo4
 have hi':ia < a.size:=by omega
 refine wpS_bind (elem_ok (getElem?_pos _ ia hi') ?_)
 have h':=h.pushA hi' hk
 by_cases c:(ia+1+1 == a.size) = true
 ·rw [if_pos c]
  exact wpS_pure (e.ret _ _ _ (Eg.refl _) (last_res h' m.hl (by simpa using c)))
 ·rw [if_neg c]
  have c':ia+1+1 ≠ a.size:=by simpa using c
  have g:=e.go st (out.push a[ia]) (ia+1) ib mg k k1 (Eg.refl _) h' (by omega) hj (by omega)
  by_cases d:(decide (k < 7) && decide (k1 < 7)) = true
  ·rw [if_pos d]; exact wpS_pure g.1
  ·rw [if_neg d]; exact wpS_pure g.2
theorem b_rest (m:Mg Itm key a b) {ib:Nat} (hj:ib < b.size) {x:Keyed} (h:Le key x b[ib]):∀ y ∈ b.toList.drop ib,Le key x y:=fun y hy=>by
 obtain ⟨j,hj',e⟩:=drop_mem hy
 rw [← e]; exact h.tr (srt_at m.sb (show ib≤ib+j by omega) hj')
theorem a_rest (m:Mg Itm key a b) {ia:Nat} (hj:ia < a.size) {x:Keyed} (h:Le key x a[ia]):∀ y ∈ a.toList.drop ia,Le key x y:=fun y hy=>by
 obtain ⟨j,hj',e⟩:=drop_mem hy
 rw [← e]; exact h.tr (srt_at m.sa (show ia≤ia+j by omega) hj')
theorem lo3_ok (C:Cp M A E s κ key Itm) (m:Mg Itm key a b) {st:SortSt} (hκ:kindOf st = κ) {out:Array Keyed} {ia ib mg k bc y:Nat} (h:ML key a b out ia ib) (hi:ia+1 < a.size) (hj:ib < b.size) (hk:∀ y ∈ a.toList.drop ia,Le key b[ib] y) (hy:y≤ia+ib) {R:ForInStep GS→SortSt→Prop} (e:Ends key a b y st R):wpS M A E s (lo3 a b out ia ib mg k bc) R st:=by
 unfold lo3
 have hi':ia < a.size:=by omega
 refine wpS_bind (elem_ok (getElem?_pos _ ib hj) ?_)
 have h':=h.pushB hj hk
 by_cases c:(ib+1 == b.size) = true
 ·rw [if_pos c]
  have c':ib+1 = b.size:=by simpa using c
  exact wpS_pure (e.ret _ _ _ (Eg.refl _) (done_res h' (.inr (by omega))))
 ·rw [if_neg c]
  have c':ib+1 ≠ b.size:=by simpa using c
  refine wpS_bind (elem_ok (getElem?_pos _ ia hi') ?_)
  refine wpS_bind (gal_true C hκ m.sb (by omega) (by omega) m.ib (m.ia _ (Array.getElem_mem hi')) fun r hr g1 g2=>?_)
  dsimp only
  have low:∀ x ∈ (b.extract (ib+1) (ib+1+r)).toList,∀ y ∈ a.toList.drop ia,Le key x y:=fun x hx y hy=>by
   obtain ⟨j,hj1,hj2,e1⟩:=cut_mem hx
   rw [← e1]
   exact a_rest m hi' (g1 j hj1 hj2) y hy
  have h2:=h'.manyB low
  have up:∀ y ∈ b.toList.drop (ib+1+r),Le key a[ia] y:=fun y hy=>by
   obtain ⟨j,hj1,e1⟩:=drop_mem hy
   have:=g2 (r+j) (by omega) (by omega) (by omega)
   rw [← e1]
   simpa [Nat.add_assoc] using this
  by_cases r0:r > 0
  ·rw [if_pos r0]
   by_cases d:(ib+1+r == b.size) = true
   ·rw [if_pos d]
    have d':ib+1+r = b.size:=by simpa using d
    exact wpS_pure (e.ret _ _ _ (Eg.refl _) (done_res h2 (.inr (by omega))))
   ·rw [if_neg d]
    have d':ib+1+r ≠ b.size:=by simpa using d
    exact lo4_ok m h2 hi (by omega) up (by omega) e
  ·rw [if_neg r0]
   have r0':r = 0:=by omega
   subst r0'
   exact lo4_ok m h' hi (by omega) up (by omega) e
theorem lo2_ok (C:Cp M A E s κ key Itm) (m:Mg Itm key a b) {st:SortSt} (hκ:kindOf st = κ) {out:Array Keyed} {ia ib mg ac bc y:Nat} (h:ML key a b out ia ib) (hi:ia+1 < a.size) (hj:ib < b.size) (hy:y≤ia+ib) {R:ForInStep GS→SortSt→Prop} (e:Ends key a b y st R):wpS M A E s (lo2 a b out ia ib mg ac bc) R st:=by
 unfold lo2
 refine wpS_bind (setG_ok fun st1 eg=>?_)
 replace e:=e.eg eg
 have hκ1:kindOf st1 = κ:=eg.kind.trans hκ
 refine wpS_bind (elem_ok (getElem?_pos _ ib hj) ?_)
 refine wpS_bind (gal_false C hκ1 m.sa (by omega) (by omega) m.ia (m.ib _ (Array.getElem_mem hj)) fun r hr g1 g2=>?_)
 dsimp only
 have low:∀ x ∈ (a.extract ia (ia+r)).toList,∀ y ∈ b.toList.drop ib,Le key x y:=fun x hx y hy=>by
  obtain ⟨j,hj1,hj2,e1⟩:=cut_mem hx
  rw [← e1]
  exact b_rest m hj (g1 j hj1 hj2) y hy
 have h2:=h.manyA low
 have up:∀ y ∈ a.toList.drop (ia+r),Le key b[ib] y:=fun y hy=>by
  obtain ⟨j,hj1,e1⟩:=drop_mem hy
  have:=g2 (r+j) (by omega) (by omega) (by omega)
  rw [← e1]
  simpa [Nat.add_assoc] using this
 by_cases r0:r > 0
 ·rw [if_pos r0]
  by_cases c:(ia+r+1 == a.size) = true
  ·rw [if_pos c]
   exact wpS_pure (e.ret _ _ _ (Eg.refl _) (last_res h2 m.hl (by simpa using c)))
  ·rw [if_neg c]
   have c':ia+r+1 ≠ a.size:=by simpa using c
   by_cases d:(ia+r == a.size) = true
   ·rw [if_pos d]
    have d':ia+r = a.size:=by simpa using d
    exact wpS_pure (e.ret _ _ _ (Eg.refl _) (done_res h2 (.inl (by omega))))
   ·rw [if_neg d]
    have d':ia+r ≠ a.size:=by simpa using d
    exact lo3_ok C m hκ1 h2 (by omega) hj up (by omega) e
 ·rw [if_neg r0]
  have r0':r = 0:=by omega
  subst r0'
  exact lo3_ok C m hκ1 h hi hj up hy e
theorem mergeLo_ok (C:Cp M A E s κ key Itm) (m:Mg Itm key a b) {st:SortSt} (hκ:kindOf st = κ) {Q:Array Keyed→SortSt→Prop} (h:∀ r st',Eg st st'→Res key a b r→Q r st'):wpS M A E s (mergeLo' a b) Q st:=by
 rw [mergeLo'_eq]
 refine wpS_bind (wpS_lift (wpAny_rule ⟨rfl,?_⟩))
 refine wpS_bind (elem_ok (getElem?_pos _ 0 m.nb) ?_)
 have h0:ML key a b #[b[0]'m.nb] 0 1:=by
  have z:ML key a b #[] 0 0:=⟨by simp,.nil,by simpa using m.sa,by simpa using m.sb,fun x hx=>by simp at hx,fun x hx=>by simp at hx⟩
  exact z.pushB m.nb fun y hy=>m.hf y (by simpa using hy) _ (by
   have:=arr_at m.nb
   rw [List.drop_zero] at this
   rw [this]; simp)
 by_cases c1:(1 == b.size) = true
 ·rw [if_pos c1]
  have c1':1 = b.size:=by simpa using c1
  exact wpS_pure (h _ _ (Eg.refl _) (done_res h0 (.inr (by omega))))
 rw [if_neg c1]
 have c1':1 ≠ b.size:=by simpa using c1
 by_cases c2:(0+1 == a.size) = true
 ·rw [if_pos c2]
  exact wpS_pure (h _ _ (Eg.refl _) (last_res h0 m.hl (by simpa using c2)))
 rw [if_neg c2]
 have c2':0+1 ≠ a.size:=by simpa using c2
 have na:=m.na
 have nb:=m.nb
 refine wpS_bind (wpS_get ?_)
 refine wpS_bind (wpS_mono (wpS_forRange (I:=fun x c st'=>Eg st st'∧∃ out ia ib mg,c = (none,out,ia,ib,mg)∧ML key a b out ia ib∧ia+1 < a.size∧ib < b.size∧x≤ia+ib)
  (Q:=fun c st'=>Eg st st'∧∃ r c',c = (some r,c')∧Res key a b r) ?step ?fin ⟨Eg.refl _,_,0,1,_,rfl,h0,by omega,by omega,by omega⟩) ?post)
 case post =>
  rintro _ st' ⟨eg,r,c',rfl,res⟩
  exact wpS_pure (h r st' eg res)
 case fin =>
  rintro _ st' ⟨eg,out,ia,ib,mg,rfl,ml,hi,hj,hx⟩
  omega
 case step =>
  rintro x _ st' _ hx ⟨eg,out,ia,ib,mg,rfl,ml,hi,hj,hxi⟩
  dsimp only
  refine wpS_bind (wpS_mono (wpS_forRange (I:=fun z c st2=>st2 = st'∧∃ out' ia' ib' ac bc,c = (none,out',ia',ib',ac,bc)∧ML key a b out' ia' ib'∧ia'+1 < a.size∧ib' < b.size∧ia+ib+z≤ia'+ib')
   (Q:=fun c st2=>st2 = st'∧((∃ r c',c = (some r,c')∧Res key a b r)∨∃ out' ia' ib' ac bc,c = (none,out',ia',ib',ac,bc)∧ML key a b out' ia' ib'∧ia'+1 < a.size∧ib' < b.size∧ia+ib+1≤ia'+ib')) ?s1 ?f1 ⟨rfl,out,ia,ib,0,0,rfl,ml,hi,hj,by omega⟩) ?p1)
  case f1 =>
   rintro _ st2 ⟨rfl,out',ia',ib',ac,bc,rfl,ml',hi',hj',hz⟩
   omega
  case s1 =>
   rintro z _ st2 _ hz ⟨rfl,out',ia',ib',ac,bc,rfl,ml',hi',hj',hz'⟩
   have hia:ia' < a.size:=by omega
   unfold lo0
   dsimp only
   refine wpS_bind (elem_ok (getElem?_pos _ ib' hj') (wpS_bind (elem_ok (getElem?_pos _ ia' hia) ?_)))
   refine wpS_bind (C.lt (eg.kind.trans hκ) (m.ib _ (Array.getElem_mem hj')) (m.ia _ (Array.getElem_mem hia)) ?_)
   cases e:ltP (key b[ib']) (key a[ia']) with
   | true =>
    simp only [if_true]
    refine wpS_bind (elem_ok (getElem?_pos _ ib' hj') ?_)
    have h':=ml'.pushB hj' (a_rest m hia (le_of_lt e))
    by_cases c:(ib'+1 == b.size) = true
    ·rw [if_pos c]
     have c':ib'+1 = b.size:=by simpa using c
     exact wpS_pure ⟨rfl,.inl ⟨_,_,rfl,done_res h' (.inr (by omega))⟩⟩
    ·rw [if_neg c]
     have c':ib'+1 ≠ b.size:=by simpa using c
     by_cases d:bc+1 ≥ mg
     ·rw [if_pos d]
      exact wpS_pure ⟨rfl,.inr ⟨_,_,_,_,_,rfl,h',by omega,by omega,by omega⟩⟩
     ·rw [if_neg d]
      exact wpS_pure ⟨rfl,_,_,_,_,_,rfl,h',by omega,by omega,by omega⟩
   | false =>
    simp only [Bool.false_eq_true,if_false]
    refine wpS_bind (elem_ok (getElem?_pos _ ia' hia) ?_)
    have h':=ml'.pushA hia (b_rest m hj' (le_of_nlt e))
    by_cases c:(ia'+1+1 == a.size) = true
    ·rw [if_pos c]
     exact wpS_pure ⟨rfl,.inl ⟨_,_,rfl,last_res h' m.hl (by simpa using c)⟩⟩
    ·rw [if_neg c]
     have c':ia'+1+1 ≠ a.size:=by simpa using c
     by_cases d:ac+1 ≥ mg
     ·rw [if_pos d]
      exact wpS_pure ⟨rfl,.inr ⟨_,_,_,_,_,rfl,h',by omega,by omega,by omega⟩⟩
     ·rw [if_neg d]
      exact wpS_pure ⟨rfl,_,_,_,_,_,rfl,h',by omega,by omega,by omega⟩
  case p1 =>
   rintro _ st2 ⟨rfl,⟨r,c',rfl,res⟩ | ⟨out1,ia1,ib1,ac1,bc1,rfl,ml1,hi1,hj1,hz1⟩⟩
   ·exact wpS_pure ⟨eg,r,_,rfl,res⟩
   dsimp only
   refine wpS_bind (wpS_lift (wpAny_rule ⟨rfl,?_⟩))
   refine wpS_bind (wpS_mono (wpS_forRange (I:=fun z c st3=>Eg st st3∧∃ out' ia' ib' mg' ac bc,c = (none,out',ia',ib',mg',ac,bc)∧ML key a b out' ia' ib'∧ia'+1 < a.size∧ib' < b.size∧ia1+ib1+z≤ia'+ib')
    (Q:=fun c st3=>Eg st st3∧((∃ r c',c = (some r,c')∧Res key a b r)∨∃ out' ia' ib' mg' ac bc,c = (none,out',ia',ib',mg',ac,bc)∧ML key a b out' ia' ib'∧ia'+1 < a.size∧ib' < b.size∧ia1+ib1≤ia'+ib')) ?s2 ?f2 ⟨eg,out1,ia1,ib1,_,_,_,rfl,ml1,hi1,hj1,by omega⟩) ?p2)
   case f2 =>
    rintro _ st3 ⟨_,out',ia',ib',mg',ac,bc,rfl,ml',hi',hj',hz⟩
    omega
   case s2 =>
    rintro z _ st3 _ hz ⟨eg3,out',ia',ib',mg',ac,bc,rfl,ml',hi',hj',hz'⟩
    unfold lo1
    dsimp only
    by_cases c:mg' > 1
    ·rw [if_pos c]
     exact lo2_ok C m (eg3.kind.trans hκ) ml' hi' hj' (Nat.le_refl _) ⟨fun s4 r c' k res=>⟨eg3.trans k,.inl ⟨r,c',rfl,res⟩⟩,fun s4 o4 i4 j4 m4 a4 b4 k l4 l5 l6 l7=>⟨⟨eg3.trans k,.inr ⟨o4,i4,j4,m4,a4,b4,rfl,l4,l5,l6,by omega⟩⟩,eg3.trans k,o4,i4,j4,m4,a4,b4,rfl,l4,l5,l6,by omega⟩⟩
    ·rw [if_neg c]
     exact lo2_ok C m (eg3.kind.trans hκ) ml' hi' hj' (Nat.le_refl _) ⟨fun s4 r c' k res=>⟨eg3.trans k,.inl ⟨r,c',rfl,res⟩⟩,fun s4 o4 i4 j4 m4 a4 b4 k l4 l5 l6 l7=>⟨⟨eg3.trans k,.inr ⟨o4,i4,j4,m4,a4,b4,rfl,l4,l5,l6,by omega⟩⟩,eg3.trans k,o4,i4,j4,m4,a4,b4,rfl,l4,l5,l6,by omega⟩⟩
   case p2 =>
    rintro _ st3 ⟨eg3,⟨r,c',rfl,res⟩ | ⟨out',ia',ib',mg',ac,bc,rfl,ml',hi',hj',hz⟩⟩
    ·exact wpS_pure ⟨eg3,r,_,rfl,res⟩
    ·dsimp only
     refine wpS_bind (setG_ok fun st4 eg4=>wpS_pure ⟨eg3.trans eg4,out',ia',ib',_,rfl,ml',hi',hj',by omega⟩)
end
end SrtB
set_option maxRecDepth 100000
namespace SrtB
open PySem PySem.W PyProof.Rows Geo Srt
structure MT (key:Keyed→Pt) (L ra rb top:List Keyed):Prop where
 perm:(ra++(rb++top)).Perm L
 st:top.Pairwise (Le key)
 sa:ra.Pairwise (Le key)
 sb:rb.Pairwise (Le key)
 ta:∀ x ∈ ra,∀ y ∈ top,Le key x y
 tb:∀ x ∈ rb,∀ y ∈ top,Le key x y
section
variable {key:Keyed→Pt} {L ra rb top u:List Keyed}
theorem MT.goA (h:MT key L (ra++u) rb top) (k:∀ x ∈ rb,∀ y ∈ u,Le key x y):MT key L ra rb (u++top):=by
 have sa:=List.pairwise_append.mp h.sa
 refine ⟨?_,List.pairwise_append.mpr ⟨sa.2.1,h.st,fun x hx y hy=>h.ta x (List.mem_append_right _ hx) y hy⟩,sa.1,h.sb,fun x hx y hy=>?_,fun x hx y hy=>?_⟩
 ·refine List.Perm.trans ?_ h.perm
  rw [List.append_assoc]
  refine List.Perm.append_left _ ?_
  rw [← List.append_assoc,← List.append_assoc]
  exact List.Perm.append_right _ List.perm_append_comm
 ·rcases List.mem_append.mp hy with z | z
  ·exact sa.2.2 x hx y z
  ·exact h.ta x (List.mem_append_left _ hx) y z
 ·rcases List.mem_append.mp hy with z | z
  ·exact k x hx y z
  ·exact h.tb x hx y z
theorem MT.goB (h:MT key L ra (rb++u) top) (k:∀ x ∈ ra,∀ y ∈ u,Le key x y):MT key L ra rb (u++top):=by
 have sb:=List.pairwise_append.mp h.sb
 refine ⟨by simpa using h.perm,List.pairwise_append.mpr ⟨sb.2.1,h.st,fun x hx y hy=>h.tb x (List.mem_append_right _ hx) y hy⟩,h.sa,sb.1,fun x hx y hy=>?_,fun x hx y hy=>?_⟩
 ·rcases List.mem_append.mp hy with z | z
  ·exact k x hx y z
  ·exact h.ta x hx y z
 ·rcases List.mem_append.mp hy with z | z
  ·exact sb.2.2 x hx y z
  ·exact h.tb x (List.mem_append_left _ hx) y z
theorem MT.endA (h:MT key L ra rb top) (k:∀ x ∈ ra,∀ y ∈ rb,Le key x y):(ra++rb++top).Perm L∧(ra++rb++top).Pairwise (Le key):=by
 refine ⟨by rw [List.append_assoc]; exact h.perm,?_⟩
 refine List.pairwise_append.mpr ⟨List.pairwise_append.mpr ⟨h.sa,h.sb,k⟩,h.st,fun x hx y hy=>?_⟩
 rcases List.mem_append.mp hx with z | z
 ·exact h.ta x z y hy
 ·exact h.tb x z y hy
theorem MT.endB (h:MT key L ra rb top) (k:∀ x ∈ rb,∀ y ∈ ra,Le key x y):(rb++ra++top).Perm L∧(rb++ra++top).Pairwise (Le key):=by
 refine ⟨?_,?_⟩
 ·refine List.Perm.trans ?_ h.perm
  rw [← List.append_assoc]
  exact List.Perm.append_right _ List.perm_append_comm
 refine List.pairwise_append.mpr ⟨List.pairwise_append.mpr ⟨h.sb,h.sa,k⟩,h.st,fun x hx y hy=>?_⟩
 rcases List.mem_append.mp hx with z | z
 ·exact h.tb x z y hy
 ·exact h.ta x z y hy
end
theorem take_at {a:Array Keyed} {i:Nat} (h:i < a.size):a.toList.take (i+1) = a.toList.take i++[a[i]]:=by
 rw [List.take_succ_eq_append_getElem (by simpa using h)]; simp
theorem take_cut {a:Array Keyed} {i n:Nat} (h:i≤n):a.toList.take n = a.toList.take i++(a.extract i n).toList:=by
 rw [Array.toList_extract,List.extract_eq_take_drop]
 have e:n = i+(n - i):=by omega
 rw (config:={ occs:=.pos [1] }) [e]
 rw [List.take_add]
theorem take_all {a:Array Keyed} {n:Nat}:(a.extract 0 n).toList = a.toList.take n:=by
 rw [Array.toList_extract,List.extract_eq_take_drop]; simp
theorem take_mem {a:Array Keyed} {n:Nat} {x:Keyed} (h:x ∈ a.toList.take n):∃ j,j < n∧∃ hj:j < a.size,a[j] = x:=by
 obtain ⟨j,hj,e⟩:=List.mem_iff_getElem.mp h
 simp at hj
 exact ⟨j,by omega,by omega,by rw [← e]; simp⟩
theorem ext_mem {a:Array Keyed} {i n:Nat} {x:Keyed} (h:x ∈ (a.extract i n).toList):∃ j,i≤j∧j < n∧∃ hj:j < a.size,a[j] = x:=by
 obtain ⟨j,hj,e⟩:=List.mem_iff_getElem.mp h
 simp at hj
 exact ⟨i+j,by omega,by omega,by omega,by rw [← e]; simp⟩
def doneHi (a b out:Array Keyed) (na nb:Nat):Array Keyed:=a.extract 0 na++b.extract 0 nb++out.reverse
def firstHi (a b out:Array Keyed) (na nb:Nat):Array Keyed:=b.extract 0 nb++a.extract 0 na++out.reverse
abbrev MU (key:Keyed→Pt) (a b out:Array Keyed) (na nb:Nat):Prop:=MT key (a.toList++b.toList) (a.toList.take na) (b.toList.take nb) out.toList.reverse
theorem doneHi_res {key:Keyed→Pt} {a b out:Array Keyed} {na nb:Nat} (h:MU key a b out na nb) (hk:na = 0∨nb = 0):Res key a b (doneHi a b out na nb):=by
 have:=MT.endA h fun x hx y hy=>by
  rcases hk with z | z
  ·rw [z] at hx; simp at hx
  ·rw [z] at hy; simp at hy
 unfold Res doneHi
 rw [Array.toList_append,Array.toList_append,take_all,take_all,Array.toList_reverse]
 exact this
theorem firstHi_res {key:Keyed→Pt} {a b out:Array Keyed} {na:Nat} (h:MU key a b out na 1) (hl:∀ x ∈ a.toList,∀ y ∈ b.toList.take 1,Le key y x):Res key a b (firstHi a b out na 1):=by
 have:=MT.endB h fun x hx y hy=>hl y (List.mem_of_mem_take hy) x hx
 unfold Res firstHi
 rw [Array.toList_append,Array.toList_append,take_all,take_all,Array.toList_reverse]
 exact this
theorem MU.pushA {key:Keyed→Pt} {a b out:Array Keyed} {na nb:Nat} (h:MU key a b out (na+1) nb) (hi:na < a.size) (k:∀ y ∈ b.toList.take nb,Le key y a[na]):MU key a b (out.push a[na]) na nb:=by
 unfold MU at h ⊢
 rw [take_at hi] at h
 have:=h.goA fun x hx y hy=>by rw [List.mem_singleton.mp hy]; exact k x hx
 rw [Array.toList_push,List.reverse_append]
 exact this
theorem MU.pushB {key:Keyed→Pt} {a b out:Array Keyed} {na nb:Nat} (h:MU key a b out na (nb+1)) (hi:nb < b.size) (k:∀ y ∈ a.toList.take na,Le key y b[nb]):MU key a b (out.push b[nb]) na nb:=by
 unfold MU at h ⊢
 rw [take_at hi] at h
 have:=h.goB fun x hx y hy=>by rw [List.mem_singleton.mp hy]; exact k x hx
 rw [Array.toList_push,List.reverse_append]
 exact this
theorem MU.manyA {key:Keyed→Pt} {a b out:Array Keyed} {na nb n:Nat} (h:MU key a b out na nb) (hn:n≤na) (k:∀ x ∈ b.toList.take nb,∀ y ∈ (a.extract n na).toList,Le key x y):MU key a b (out++(a.extract n na).reverse) n nb:=by
 unfold MU at h ⊢
 rw [take_cut hn] at h
 have:=h.goA k
 rw [Array.toList_append,List.reverse_append,Array.toList_reverse,List.reverse_reverse]
 exact this
theorem MU.manyB {key:Keyed→Pt} {a b out:Array Keyed} {na nb n:Nat} (h:MU key a b out na nb) (hn:n≤nb) (k:∀ x ∈ a.toList.take na,∀ y ∈ (b.extract n nb).toList,Le key x y):MU key a b (out++(b.extract n nb).reverse) na n:=by
 unfold MU at h ⊢
 rw [take_cut (a:=b) hn] at h
 have:=h.goB k
 rw [Array.toList_append,List.reverse_append,Array.toList_reverse,List.reverse_reverse]
 exact this
def mergeHi':Array Keyed→Array Keyed→StateT SortSt Sem (Array Keyed):=sortPriv% PySem.Builtin.mergeHi
abbrev GH:=Option (Array Keyed)×Nat×Nat×Array Keyed×Nat×Nat×Nat
abbrev IH:=Option (Array Keyed)×Nat×Nat×Array Keyed×Nat×Nat
abbrev OH:=Option (Array Keyed)×Nat×Nat×Array Keyed×Nat
def hi4 (a b:Array Keyed) (na nb:Nat) (out:Array Keyed) (mg k k1:Nat):StateT SortSt Sem (ForInStep GH):=do
 let x ← elem' a (na - 1)
 if (na - 1 == 0) = true then pure (.done (some (doneHi a b (out.push x) (na - 1) nb),na - 1,nb,out.push x,mg,k,k1))
 else if (decide (k < 7) && decide (k1 < 7)) = true then pure (.done (none,na - 1,nb,out.push x,mg,k,k1))
 else pure (.yield (none,na - 1,nb,out.push x,mg,k,k1))
def hi3 (a b:Array Keyed) (na nb:Nat) (out:Array Keyed) (mg k bc:Nat):StateT SortSt Sem (ForInStep GH):=do
 let x ← elem' b (nb - 1)
 if (nb - 1 == 1) = true then pure (.done (some (firstHi a b (out.push x) na (nb - 1)),na,nb - 1,out.push x,mg,k,bc))
 else do
  let y ← elem' a (na - 1)
  let r ← gallop' true y b 0 (nb - 1) (nb - 1 - 1)
  match r with
  | some at1 =>
   if nb - 1 - at1 > 0 then
    if (at1 == 1) = true then pure (.done (some (firstHi a b (out.push x++(b.extract at1 (nb - 1)).reverse) na at1),na,at1,out.push x++(b.extract at1 (nb - 1)).reverse,mg,k,nb - 1 - at1))
    else if (at1 == 0) = true then pure (.done (some (doneHi a b (out.push x++(b.extract at1 (nb - 1)).reverse) na at1),na,at1,out.push x++(b.extract at1 (nb - 1)).reverse,mg,k,nb - 1 - at1))
    else hi4 a b na at1 (out.push x++(b.extract at1 (nb - 1)).reverse) mg k (nb - 1 - at1)
   else hi4 a b na (nb - 1) (out.push x) mg k (nb - 1 - at1)
  | _=>pure (.done (some (doneHi a b (out.push x) na (nb - 1)),na,nb - 1,out.push x,mg,k,bc))
def hi2 (a b:Array Keyed) (na nb:Nat) (out:Array Keyed) (mg ac bc:Nat):StateT SortSt Sem (ForInStep GH):=do
 setG mg
 let x ← elem' b (nb - 1)
 let r ← gallop' false x a 0 na (na - 1)
 match r with
 | some at0 =>
  if na - at0 > 0 then
   if (at0 == 0) = true then pure (.done (some (doneHi a b (out++(a.extract at0 na).reverse) at0 nb),at0,nb,out++(a.extract at0 na).reverse,mg,na - at0,bc))
   else hi3 a b at0 nb (out++(a.extract at0 na).reverse) mg (na - at0) bc
  else hi3 a b na nb out mg (na - at0) bc
 | _=>pure (.done (some (doneHi a b out na nb),na,nb,out,mg,ac,bc))
def hi1 (a b:Array Keyed) (c:GH):StateT SortSt Sem (ForInStep GH) :=
 if c.2.2.2.2.1 > 1 then hi2 a b c.2.1 c.2.2.1 c.2.2.2.1 (c.2.2.2.2.1 - 1) c.2.2.2.2.2.1 c.2.2.2.2.2.2 else hi2 a b c.2.1 c.2.2.1 c.2.2.2.1 c.2.2.2.2.1 c.2.2.2.2.2.1 c.2.2.2.2.2.2
def hi0 (a b:Array Keyed) (mg:Nat) (c:IH):StateT SortSt Sem (ForInStep IH):=do
 let x ← elem' b (c.2.2.1 - 1)
 let y ← elem' a (c.2.1 - 1)
 let r ← lt' x y
 match r with
 | some aWins =>
  if aWins = true then do
   let z ← elem' a (c.2.1 - 1)
   if (c.2.1 - 1 == 0) = true then pure (.done (some (doneHi a b (c.2.2.2.1.push z) (c.2.1 - 1) c.2.2.1),c.2.1 - 1,c.2.2.1,c.2.2.2.1.push z,c.2.2.2.2.1+1,0))
   else if c.2.2.2.2.1+1 ≥ mg then pure (.done (none,c.2.1 - 1,c.2.2.1,c.2.2.2.1.push z,c.2.2.2.2.1+1,0))
   else pure (.yield (none,c.2.1 - 1,c.2.2.1,c.2.2.2.1.push z,c.2.2.2.2.1+1,0))
  else do
   let z ← elem' b (c.2.2.1 - 1)
   if (c.2.2.1 - 1 == 1) = true then pure (.done (some (firstHi a b (c.2.2.2.1.push z) c.2.1 (c.2.2.1 - 1)),c.2.1,c.2.2.1 - 1,c.2.2.2.1.push z,0,c.2.2.2.2.2+1))
   else if c.2.2.2.2.2+1 ≥ mg then pure (.done (none,c.2.1,c.2.2.1 - 1,c.2.2.2.1.push z,0,c.2.2.2.2.2+1))
   else pure (.yield (none,c.2.1,c.2.2.1 - 1,c.2.2.2.1.push z,0,c.2.2.2.2.2+1))
 | _=>pure (.done (some (doneHi a b c.2.2.2.1 c.2.1 c.2.2.1),c.2.1,c.2.2.1,c.2.2.2.1,c.2.2.2.2.1,c.2.2.2.2.2))
set_option smartUnfolding false in
theorem mergeHi'_eq (a b:Array Keyed):mergeHi' a b = (do
 liftM (rule "list.sort.merge-hi")
 let x ← elem' a (a.size - 1)
 if (a.size - 1 == 0) = true then pure (doneHi a b #[x] (a.size - 1) b.size)
 else if (b.size == 1) = true then pure (firstHi a b #[x] (a.size - 1) b.size)
 else do
  let st ← get
  let c ← forIn [0:a.size+b.size] ((none,a.size - 1,b.size,#[x],gallopOf st):OH) fun _ c=>do
   let d ← forIn [0:a.size+b.size] ((none,c.2.1,c.2.2.1,c.2.2.2.1,0,0):IH) fun _ d=>hi0 a b c.2.2.2.2 d
   match d.1 with
   | some r=>pure (.done (some r,d.2.1,d.2.2.1,d.2.2.2.1,c.2.2.2.2))
   | none=>do
    liftM (rule "list.sort.gallop")
    let g ← forIn [0:a.size+b.size] ((none,d.2.1,d.2.2.1,d.2.2.2.1,c.2.2.2.2+1,d.2.2.2.2.1,d.2.2.2.2.2):GH) fun _ g=>hi1 a b g
    match g.1 with
    | some r=>pure (.done (some r,g.2.1,g.2.2.1,g.2.2.2.1,g.2.2.2.2.1))
    | none=>do
     setG (g.2.2.2.2.1+1)
     pure (.yield (none,g.2.1,g.2.2.1,g.2.2.2.1,g.2.2.2.2.1+1))
  match c.1 with
  | some r=>pure r
  | none=>liftM (unsupported "internal:list.sort.merge-bound")):=by
 rfl
section
variable {M:Model} {A:Around} {E:Value→Shared→Prop} {s:Shared} {κ:SortKind} {key:Keyed→Pt} {Itm:Keyed→Prop} {a b:Array Keyed}
structure EndsH (key:Keyed→Pt) (a b:Array Keyed) (y:Nat) (st:SortSt) (R:ForInStep GH→SortSt→Prop):Prop where
 ret:∀ st' r c',Eg st st'→Res key a b r→R (.done (some r,c')) st'
 go:∀ st' na nb out mg ac bc,Eg st st'→MU key a b out na nb→0 < na→na≤a.size→1 < nb→nb≤b.size→na+nb+1≤y→R (.done (none,na,nb,out,mg,ac,bc)) st'∧R (.yield (none,na,nb,out,mg,ac,bc)) st'
theorem EndsH.eg {y:Nat} {st st':SortSt} {R:ForInStep GH→SortSt→Prop} (e:EndsH key a b y st R) (h:Eg st st'):EndsH key a b y st' R :=
 ⟨fun s2 r c' k=>e.ret s2 r c' (h.trans k),fun s2 na nb out mg ac bc k=>e.go s2 na nb out mg ac bc (h.trans k)⟩
theorem a_low (m:Mg Itm key a b) {i:Nat} (hi:i < a.size) {x:Keyed} (h:Le key a[i] x):∀ y ∈ a.toList.take (i+1),Le key y x:=fun y hy=>by
 obtain ⟨j,hj,hj',e⟩:=take_mem hy
 rw [← e]; exact (srt_at m.sa (show j≤i by omega) hi).tr h
theorem b_low (m:Mg Itm key a b) {i:Nat} (hi:i < b.size) {x:Keyed} (h:Le key b[i] x):∀ y ∈ b.toList.take (i+1),Le key y x:=fun y hy=>by
 obtain ⟨j,hj,hj',e⟩:=take_mem hy
 rw [← e]; exact (srt_at m.sb (show j≤i by omega) hi).tr h
theorem hi4_ok (_:Mg Itm key a b) {st:SortSt} {out:Array Keyed} {na nb mg k k1 y:Nat} (h:MU key a b out (na+1) nb) (hi:na < a.size) (hj:1 < nb) (hjb:nb≤b.size) (hk:∀ y ∈ b.toList.take nb,Le key y a[na]) (hy:na+1+nb≤y) {R:ForInStep GH→SortSt→Prop} (e:EndsH key a b y st R):wpS M A E s (hi4 a b (na+1) nb out mg k k1) R st:=by
 unfold hi4
 rw [Nat.add_sub_cancel]
 refine wpS_bind (elem_ok (getElem?_pos _ na hi) ?_)
 have h':=h.pushA hi hk
 by_cases c:(na == 0) = true
 ·rw [if_pos c]
  exact wpS_pure (e.ret _ _ _ (Eg.refl _) (doneHi_res h' (.inl (by simpa using c))))
 ·rw [if_neg c]
  have c':na ≠ 0:=by simpa using c
  have g:=e.go st na nb (out.push a[na]) mg k k1 (Eg.refl _) h' (by omega) (by omega) hj hjb (by omega)
  by_cases d:(decide (k < 7) && decide (k1 < 7)) = true
  ·rw [if_pos d]; exact wpS_pure g.1
  ·rw [if_neg d]; exact wpS_pure g.2
theorem hi3_ok (C:Cp M A E s κ key Itm) (m:Mg Itm key a b) {st:SortSt} (hκ:kindOf st = κ) {out:Array Keyed} {na nb mg k bc y:Nat} (h:MU key a b out (na+1) (nb+1)) (hi:na < a.size) (hj:0 < nb) (hjb:nb < b.size) (hk:∀ y ∈ a.toList.take (na+1),Le key y b[nb]) (hy:na+1+(nb+1)≤y) {R:ForInStep GH→SortSt→Prop} (e:EndsH key a b y st R):wpS M A E s (hi3 a b (na+1) (nb+1) out mg k bc) R st:=by
 unfold hi3
 rw [Nat.add_sub_cancel,Nat.add_sub_cancel]
 refine wpS_bind (elem_ok (getElem?_pos _ nb hjb) ?_)
 have h':=h.pushB hjb hk
 by_cases c:(nb == 1) = true
 ·rw [if_pos c]
  have c':nb = 1:=by simpa using c
  subst c'
  exact wpS_pure (e.ret _ _ _ (Eg.refl _) (firstHi_res h' m.hf))
 ·rw [if_neg c]
  have c':nb ≠ 1:=by simpa using c
  refine wpS_bind (elem_ok (getElem?_pos _ na hi) ?_)
  refine wpS_bind (gal_true C hκ m.sb (by omega) (by omega) m.ib (m.ia _ (Array.getElem_mem hi)) fun r hr g1 g2=>?_)
  dsimp only
  have up:∀ x ∈ a.toList.take (na+1),∀ z ∈ (b.extract r nb).toList,Le key x z:=fun x hx z hz=>by
   obtain ⟨j,hj1,hj2,hj3,e1⟩:=ext_mem hz
   rw [← e1]
   have:=g2 j hj1 hj2 (by omega)
   exact a_low m hi (by simpa using this) x hx
  have low:∀ y ∈ b.toList.take r,Le key y a[na]:=fun y hy=>by
   obtain ⟨j,hj1,hj2,e1⟩:=take_mem hy
   have:=g1 j hj1 (by omega)
   rw [← e1]; simpa using this
  have h2:=h'.manyB hr up
  by_cases r0:nb - r > 0
  ·rw [if_pos r0]
   by_cases d:(r == 1) = true
   ·rw [if_pos d]
    have d':r = 1:=by simpa using d
    subst d'
    exact wpS_pure (e.ret _ _ _ (Eg.refl _) (firstHi_res h2 m.hf))
   ·rw [if_neg d]
    have d':r ≠ 1:=by simpa using d
    by_cases d2:(r == 0) = true
    ·rw [if_pos d2]
     exact wpS_pure (e.ret _ _ _ (Eg.refl _) (doneHi_res h2 (.inr (by simpa using d2))))
    ·rw [if_neg d2]
     have d2':r ≠ 0:=by simpa using d2
     exact hi4_ok m h2 hi (by omega) (by omega) low (by omega) e
  ·rw [if_neg r0]
   have r0':r = nb:=by omega
   subst r0'
   exact hi4_ok m h' hi (by omega) (by omega) low (by omega) e
theorem hi2_ok (C:Cp M A E s κ key Itm) (m:Mg Itm key a b) {st:SortSt} (hκ:kindOf st = κ) {out:Array Keyed} {na nb mg ac bc y:Nat} (h:MU key a b out (na+1) (nb+1)) (hi:na < a.size) (hj:0 < nb) (hjb:nb < b.size) (hy:na+1+(nb+1)≤y) {R:ForInStep GH→SortSt→Prop} (e:EndsH key a b y st R):wpS M A E s (hi2 a b (na+1) (nb+1) out mg ac bc) R st:=by
 unfold hi2
 rw [Nat.add_sub_cancel,Nat.add_sub_cancel]
 refine wpS_bind (setG_ok fun st1 eg=>?_)
 replace e:=e.eg eg
 have hκ1:kindOf st1 = κ:=eg.kind.trans hκ
 refine wpS_bind (elem_ok (getElem?_pos _ nb hjb) ?_)
 refine wpS_bind (gal_false C hκ1 m.sa (by omega) (by omega) m.ia (m.ib _ (Array.getElem_mem hjb)) fun r hr g1 g2=>?_)
 dsimp only
 have up:∀ x ∈ b.toList.take (nb+1),∀ z ∈ (a.extract r (na+1)).toList,Le key x z:=fun x hx z hz=>by
  obtain ⟨j,hj1,hj2,hj3,e1⟩:=ext_mem hz
  rw [← e1]
  have:=g2 j hj1 hj2 (by omega)
  exact b_low m hjb (by simpa using this) x hx
 have low:∀ y ∈ a.toList.take r,Le key y b[nb]:=fun y hy=>by
  obtain ⟨j,hj1,hj2,e1⟩:=take_mem hy
  have:=g1 j hj1 (by omega)
  rw [← e1]; simpa using this
 have h2:=h.manyA hr up
 by_cases r0:na+1 - r > 0
 ·rw [if_pos r0]
  by_cases d:(r == 0) = true
  ·rw [if_pos d]
   exact wpS_pure (e.ret _ _ _ (Eg.refl _) (doneHi_res h2 (.inl (by simpa using d))))
  ·rw [if_neg d]
   have d':r ≠ 0:=by simpa using d
   obtain ⟨r',rfl⟩:∃ r',r = r'+1:=⟨r - 1,by omega⟩
   exact hi3_ok C m hκ1 h2 (by omega) hj hjb low (by omega) e
 ·rw [if_neg r0]
  have r0':r = na+1:=by omega
  subst r0'
  exact hi3_ok C m hκ1 h hi hj hjb low hy e
theorem mergeHi_ok (C:Cp M A E s κ key Itm) (m:Mg Itm key a b) {st:SortSt} (hκ:kindOf st = κ) {Q:Array Keyed→SortSt→Prop} (h:∀ r st',Eg st st'→Res key a b r→Q r st'):wpS M A E s (mergeHi' a b) Q st:=by
 rw [mergeHi'_eq]
 have na:=m.na
 have nb:=m.nb
 obtain ⟨n,hn⟩:∃ n,a.size = n+1:=⟨a.size - 1,by omega⟩
 have hna:n < a.size:=by omega
 refine wpS_bind (wpS_lift (wpAny_rule ⟨rfl,?_⟩))
 rw [show a.size - 1 = n by omega]
 refine wpS_bind (elem_ok (getElem?_pos _ n hna) ?_)
 have h0:MU key a b #[a[n]] n b.size:=by
  have ta:a.toList.take (n+1) = a.toList:=List.take_of_length_le (by simp; omega)
  have tb:b.toList.take b.size = b.toList:=List.take_of_length_le (by simp)
  have z:MU key a b #[] (n+1) b.size:=by
   unfold MU
   rw [ta,tb]
   exact ⟨by simp,.nil,m.sa,m.sb,fun x hx y hy=>by simp at hy,fun x hx y hy=>by simp at hy⟩
  exact z.pushA hna fun y hy=>m.hl y (List.mem_of_mem_take hy) _ (by
   rw [show a.size - 1 = n by omega,arr_at hna]; simp)
 by_cases c1:(n == 0) = true
 ·rw [if_pos c1]
  exact wpS_pure (h _ _ (Eg.refl _) (doneHi_res h0 (.inl (by simpa using c1))))
 rw [if_neg c1]
 have c1':n ≠ 0:=by simpa using c1
 by_cases c2:(b.size == 1) = true
 ·rw [if_pos c2]
  have c2':b.size = 1:=by simpa using c2
  rw [c2'] at h0 ⊢
  exact wpS_pure (h _ _ (Eg.refl _) (firstHi_res h0 m.hf))
 rw [if_neg c2]
 have c2':b.size ≠ 1:=by simpa using c2
 refine wpS_bind (wpS_get ?_)
 refine wpS_bind (wpS_mono (wpS_forRange (I:=fun x c st'=>Eg st st'∧∃ na nb out mg,c = (none,na,nb,out,mg)∧MU key a b out na nb∧0 < na∧na≤a.size∧1 < nb∧nb≤b.size∧na+nb+x≤a.size+b.size)
  (Q:=fun c st'=>Eg st st'∧∃ r c',c = (some r,c')∧Res key a b r) ?step ?fin ⟨Eg.refl _,n,b.size,_,_,rfl,h0,by omega,by omega,by omega,by omega,by omega⟩) ?post)
 case post =>
  rintro _ st' ⟨eg,r,c',rfl,res⟩
  exact wpS_pure (h r st' eg res)
 case fin =>
  rintro _ st' ⟨eg,na,nb,out,mg,rfl,ml,hi,hi2,hj,hj2,hx⟩
  omega
 case step =>
  rintro x _ st' _ hx ⟨eg,na,nb,out,mg,rfl,ml,hi,hi2,hj,hj2,hxi⟩
  dsimp only
  refine wpS_bind (wpS_mono (wpS_forRange (I:=fun z c st2=>st2 = st'∧∃ na' nb' out' ac bc,c = (none,na',nb',out',ac,bc)∧MU key a b out' na' nb'∧0 < na'∧na'≤a.size∧1 < nb'∧nb'≤b.size∧na'+nb'+z≤na+nb)
   (Q:=fun c st2=>st2 = st'∧((∃ r c',c = (some r,c')∧Res key a b r)∨∃ na' nb' out' ac bc,c = (none,na',nb',out',ac,bc)∧MU key a b out' na' nb'∧0 < na'∧na'≤a.size∧1 < nb'∧nb'≤b.size∧na'+nb'+1≤na+nb)) ?s1 ?f1 ⟨rfl,na,nb,out,0,0,rfl,ml,hi,hi2,hj,hj2,by omega⟩) ?p1)
  case f1 =>
   rintro _ st2 ⟨rfl,na',nb',out',ac,bc,rfl,ml',hi',hi2',hj',hj2',hz⟩
   omega
  case s1 =>
   rintro z _ st2 _ hz ⟨rfl,na',nb',out',ac,bc,rfl,ml',hi',hi2',hj',hj2',hz'⟩
   obtain ⟨i,rfl⟩:∃ i,na' = i+1:=⟨na' - 1,by omega⟩
   obtain ⟨j,rfl⟩:∃ j,nb' = j+1:=⟨nb' - 1,by omega⟩
   have hia:i < a.size:=by omega
   have hjb:j < b.size:=by omega
   unfold hi0
   dsimp only
   rw [Nat.add_sub_cancel,Nat.add_sub_cancel]
   refine wpS_bind (elem_ok (getElem?_pos _ j hjb) (wpS_bind (elem_ok (getElem?_pos _ i hia) ?_)))
   refine wpS_bind (C.lt (eg.kind.trans hκ) (m.ib _ (Array.getElem_mem hjb)) (m.ia _ (Array.getElem_mem hia)) ?_)
   cases e:ltP (key b[j]) (key a[i]) with
   | true =>
    simp only [if_true]
    refine wpS_bind (elem_ok (getElem?_pos _ i hia) ?_)
    have h':=ml'.pushA hia (b_low m hjb (le_of_lt e))
    by_cases c:(i == 0) = true
    ·rw [if_pos c]
     exact wpS_pure ⟨rfl,.inl ⟨_,_,rfl,doneHi_res h' (.inl (by simpa using c))⟩⟩
    ·rw [if_neg c]
     have c':i ≠ 0:=by simpa using c
     by_cases d:ac+1 ≥ mg
     ·rw [if_pos d]
      exact wpS_pure ⟨rfl,.inr ⟨_,_,_,_,_,rfl,h',by omega,by omega,by omega,by omega,by omega⟩⟩
     ·rw [if_neg d]
      exact wpS_pure ⟨rfl,_,_,_,_,_,rfl,h',by omega,by omega,by omega,by omega,by omega⟩
   | false =>
    simp only [Bool.false_eq_true,if_false]
    refine wpS_bind (elem_ok (getElem?_pos _ j hjb) ?_)
    have h':=ml'.pushB hjb (a_low m hia (le_of_nlt e))
    by_cases c:(j == 1) = true
    ·rw [if_pos c]
     have c':j = 1:=by simpa using c
     subst c'
     exact wpS_pure ⟨rfl,.inl ⟨_,_,rfl,firstHi_res h' m.hf⟩⟩
    ·rw [if_neg c]
     have c':j ≠ 1:=by simpa using c
     by_cases d:bc+1 ≥ mg
     ·rw [if_pos d]
      exact wpS_pure ⟨rfl,.inr ⟨_,_,_,_,_,rfl,h',by omega,by omega,by omega,by omega,by omega⟩⟩
     ·rw [if_neg d]
      exact wpS_pure ⟨rfl,_,_,_,_,_,rfl,h',by omega,by omega,by omega,by omega,by omega⟩
  case p1 =>
   rintro _ st2 ⟨rfl,⟨r,c',rfl,res⟩ | ⟨na1,nb1,out1,ac1,bc1,rfl,ml1,hi1',hi2',hj1,hj2',hz1⟩⟩
   ·exact wpS_pure ⟨eg,r,_,rfl,res⟩
   dsimp only
   refine wpS_bind (wpS_lift (wpAny_rule ⟨rfl,?_⟩))
   refine wpS_bind (wpS_mono (wpS_forRange (I:=fun z c st3=>Eg st st3∧∃ na' nb' out' mg' ac bc,c = (none,na',nb',out',mg',ac,bc)∧MU key a b out' na' nb'∧0 < na'∧na'≤a.size∧1 < nb'∧nb'≤b.size∧na'+nb'+z≤na1+nb1)
    (Q:=fun c st3=>Eg st st3∧((∃ r c',c = (some r,c')∧Res key a b r)∨∃ na' nb' out' mg' ac bc,c = (none,na',nb',out',mg',ac,bc)∧MU key a b out' na' nb'∧0 < na'∧na'≤a.size∧1 < nb'∧nb'≤b.size∧na'+nb'≤na1+nb1)) ?s2 ?f2 ⟨eg,na1,nb1,out1,_,_,_,rfl,ml1,hi1',hi2',hj1,hj2',by omega⟩) ?p2)
   case f2 =>
    rintro _ st3 ⟨_,na',nb',out',mg',ac,bc,rfl,ml',hi',hi2'',hj',hj2'',hz⟩
    omega
   case s2 =>
    rintro z _ st3 _ hz ⟨eg3,na',nb',out',mg',ac,bc,rfl,ml',hi',hi2'',hj',hj2'',hz'⟩
    obtain ⟨i,rfl⟩:∃ i,na' = i+1:=⟨na' - 1,by omega⟩
    obtain ⟨j,rfl⟩:∃ j,nb' = j+1:=⟨nb' - 1,by omega⟩
    unfold hi1
    dsimp only
    by_cases c:mg' > 1
    ·rw [if_pos c]
     exact hi2_ok C m (eg3.kind.trans hκ) ml' (by omega) (by omega) (by omega) (Nat.le_refl _) ⟨fun s4 r c' k res=>⟨eg3.trans k,.inl ⟨r,c',rfl,res⟩⟩,fun s4 o4 i4 j4 m4 a4 b4 k l4 l5 l6 l7 l8 l9=>⟨⟨eg3.trans k,.inr ⟨o4,i4,j4,m4,a4,b4,rfl,l4,l5,l6,l7,l8,by omega⟩⟩,eg3.trans k,o4,i4,j4,m4,a4,b4,rfl,l4,l5,l6,l7,l8,by omega⟩⟩
    ·rw [if_neg c]
     exact hi2_ok C m (eg3.kind.trans hκ) ml' (by omega) (by omega) (by omega) (Nat.le_refl _) ⟨fun s4 r c' k res=>⟨eg3.trans k,.inl ⟨r,c',rfl,res⟩⟩,fun s4 o4 i4 j4 m4 a4 b4 k l4 l5 l6 l7 l8 l9=>⟨⟨eg3.trans k,.inr ⟨o4,i4,j4,m4,a4,b4,rfl,l4,l5,l6,l7,l8,by omega⟩⟩,eg3.trans k,o4,i4,j4,m4,a4,b4,rfl,l4,l5,l6,l7,l8,by omega⟩⟩
   case p2 =>
    rintro _ st3 ⟨eg3,⟨r,c',rfl,res⟩ | ⟨na',nb',out',mg',ac,bc,rfl,ml',hi',hi2'',hj',hj2'',hz⟩⟩
    ·exact wpS_pure ⟨eg3,r,_,rfl,res⟩
    ·dsimp only
     refine wpS_bind (setG_ok fun st4 eg4=>wpS_pure ⟨eg3.trans eg4,na',nb',out',_,rfl,ml',hi',hi2'',hj',hj2'',by omega⟩)
end
end SrtB
set_option maxRecDepth 100000
namespace SrtB
open PySem PySem.W PyProof.Rows Geo Srt
def putAt (o:Nat) (arr:Array Keyed) (l:List Keyed):Array Keyed:=l.zipIdx.foldl (fun a x=>a.setIfInBounds (o+x.2) x.1) arr
theorem put_get (o:Nat):∀ (l:List Keyed) (k:Nat) (arr:Array Keyed),o+k+l.length≤arr.size→∀ i:Nat,((l.zipIdx k).foldl (fun a x=>a.setIfInBounds (o+x.2) x.1) arr)[i]? = if o+k≤i∧i < o+k+l.length then l[i - (o+k)]? else arr[i]?
 | [],k,arr,_,i=>by
  show arr[i]? = _
  rw [if_neg (by simp)]
 | x :: l,k,arr,h,i=>by
  rw [List.length_cons] at h ⊢
  rw [List.zipIdx_cons,List.foldl_cons,put_get o l (k+1) _ (by rw [Array.size_setIfInBounds]; omega) i]
  by_cases c:o+(k+1)≤i∧i < o+(k+1)+l.length
  ·rw [if_pos c,if_pos (by omega),show i - (o+k) = (i - (o+(k+1)))+1 by omega,List.getElem?_cons_succ]
  ·rw [if_neg c,Array.getElem?_setIfInBounds]
   by_cases d:o+k = i
   ·rw [if_pos d,if_pos (by omega),if_pos (by omega),← d,Nat.sub_self]; rfl
   ·rw [if_neg d,if_neg (by omega)]
theorem put_at {o:Nat} {arr:Array Keyed} {l:List Keyed} (h:o+l.length≤arr.size) (i:Nat):(putAt o arr l)[i]? = if o≤i∧i < o+l.length then l[i - o]? else arr[i]?:=put_get o l 0 arr h i
theorem put_list {o:Nat} {arr:Array Keyed} {l:List Keyed} (h:o+l.length≤arr.size):(putAt o arr l).toList = arr.toList.take o++(l++arr.toList.drop (o+l.length)):=by
 apply List.ext_getElem?
 intro i
 rw [Array.getElem?_toList,put_at h]
 have lo:(arr.toList.take o).length = o:=by simp; omega
 by_cases c:i < o
 ·rw [if_neg (by omega),List.getElem?_append_left (by omega),List.getElem?_take,if_pos c]; simp
 ·rw [List.getElem?_append_right (by omega),lo]
  by_cases d:i < o+l.length
  ·rw [if_pos (by omega),List.getElem?_append_left (by omega)]
  ·rw [if_neg (by omega),List.getElem?_append_right (by omega),List.getElem?_drop,show o+l.length+(i - o - l.length) = i by omega]; simp
theorem put_perm {o p q:Nat} {arr:Array Keyed} {l:List Keyed} (hop:o≤p) (hpq:p≤q) (hq:q≤arr.size) (h:l.Perm ((arr.extract o p).toList++(arr.extract p q).toList)):(putAt o arr l).Perm arr:=by
 have ll:l.length = q - o:=by rw [h.length_eq]; simp; omega
 rw [Array.perm_iff_toList_perm,put_list (by omega)]
 have e:arr.toList = arr.toList.take o++((arr.extract o p).toList++(arr.extract p q).toList++arr.toList.drop q):=by
  rw [← List.append_assoc,← List.append_assoc,← take_cut hop,← take_cut hpq,List.take_append_drop]
 rw (config:={ occs:=.pos [3] }) [e]
 rw [show o+l.length = q by omega]
 exact List.Perm.append_left _ (List.Perm.append_right _ h)
def putM (o:Nat) (w:Array Keyed):StateT SortSt Sem Bool:=modify (fun t=>setArr t (putAt o (arrOf t) w.toList)) >>= fun _=>get >>= fun t=>pure (failedOf t).isNone
def joinL (a:Array Keyed) (o sb na nb:Nat):StateT SortSt Sem Bool :=
 if (nb == 0) = true then pure true
 else if na≤nb then mergeLo' (a.extract o sb) (a.extract sb (sb+nb)) >>= putM o
 else mergeHi' (a.extract o sb) (a.extract sb (sb+nb)) >>= putM o
set_option smartUnfolding false in
theorem mergeAt'_eq (i:Nat):mergeAt' i = (get >>= fun t=>match ((pendingOf t)[i]?,(pendingOf t)[i+1]?) with
 | (some (sa,na,pw),some (sb,nb,_)) =>
  set (setPending t (((pendingOf t).setIfInBounds i (sa,na+nb,pw)).eraseIdxIfInBounds (i+1))) >>= fun _ =>
  elem' (arrOf t) sb >>= fun x=>gallop' false x (arrOf t) sa na 0 >>= fun r=>match r with
  | some k=>if (na - k == 0) = true then pure true
   else elem' (arrOf t) (sa+k+(na - k) - 1) >>= fun y=>gallop' true y (arrOf t) sb nb (nb - 1) >>= fun r2=>match r2 with
    | some k2=>joinL (arrOf t) (sa+k) sb (na - k) k2
    | _=>pure false
  | _=>pure false
 | _=>liftM (unsupported "internal:list.sort.pending")):=rfl
theorem wpS_set {M:Model} {A:Around} {E:Value→Shared→Prop} {s:Shared} {σ:Type} {x:σ} {Q:PUnit→σ→Prop} {st:σ} (h:Q ⟨⟩ x):wpS M A E s (set x:StateT σ Sem PUnit) Q st:=by
 unfold wpS; rw [StateT.run_set]; exact wpAny_pure ⟨rfl,h⟩
theorem ky_get {key:Keyed→Pt} {arr:Array Keyed} {i:Nat} (h:i < arr.size):ky key arr i = key arr[i]:=by
 unfold ky
 rw [show arr.getD i (Value.none,Value.none) = arr[i] by simp [Array.getD,h]]
theorem ky_some {key:Keyed→Pt} {arr:Array Keyed} {i:Nat} {x:Keyed} (h:arr[i]? = some x):ky key arr i = key x:=by
 unfold ky
 rw [Array.getD_eq_getD_getElem?,h]; rfl
theorem bey_f {key:Keyed→Pt} {k:Keyed} {a:Array Keyed} {i:Nat}:beyAt key false k a i = leP (ky key a i) (key k):=rfl
theorem bey_t {key:Keyed→Pt} {k:Keyed} {a:Array Keyed} {i:Nat}:beyAt key true k a i = ltP (ky key a i) (key k):=rfl
theorem ext_srt {key:Keyed→Pt} {arr:Array Keyed} {p q:Nat} (u:Up key arr p q) (hq:q≤arr.size):(arr.extract p q).toList.Pairwise (Le key):=by
 rw [List.pairwise_iff_getElem]
 intro i j hi hj hij
 simp at hi hj
 have:=u (p+i) (p+j) (by omega) (by omega) (by omega)
 rw [ky_get (by omega),ky_get (by omega)] at this
 simp only [Array.getElem_toList,Array.getElem_extract]
 exact this
theorem ext_itm {Itm:Keyed→Prop} {arr:Array Keyed} {p q:Nat} (h:∀ x ∈ arr,Itm x):∀ x ∈ arr.extract p q,Itm x:=fun x hx=>by
 obtain ⟨j,_,_,hj,e⟩:=ext_mem (Array.mem_toList_iff.mpr hx)
 rw [← e]; exact h _ (Array.getElem_mem hj)
section
variable {M:Model} {A:Around} {E:Value→Shared→Prop} {s:Shared} {κ:SortKind} {key:Keyed→Pt} {Itm:Keyed→Prop} {n:Nat}
theorem put_up {arr:Array Keyed} {w:List Keyed} {sa o sb q e:Nat} (h1:sa≤o) (h2:o < sb) (h3:sb < q) (h4:q≤e) (h5:e≤arr.size) (u1:Up key arr sa sb) (u2:Up key arr sb e) (pw:w.Perm ((arr.extract o sb).toList++(arr.extract sb q).toList)) (sw:w.Pairwise (Le key))
  (g1:∀ i,sa≤i→i < o→leP (ky key arr i) (ky key arr sb) = true) (g2:∀ i,q≤i→i < e→leP (ky key arr (sb - 1)) (ky key arr i) = true):Up key (putAt o arr w) sa e:=by
 have ll:w.length = q - o:=by rw [pw.length_eq]; simp; omega
 have at_:∀ i,(putAt o arr w)[i]? = if o≤i∧i < o+w.length then w[i - o]? else arr[i]?:=put_at (by omega)
 have out:∀ i,(i < o∨q≤i)→ky key (putAt o arr w) i = ky key arr i:=fun i hi=>ky_congr (by rw [at_,if_neg (by omega)])
 have inn:∀ i,o≤i→(hi:i < q)→ky key (putAt o arr w) i = key (w[i - o]'(by omega)):=fun i h hi=>ky_some (by rw [at_,if_pos (by omega)]; exact List.getElem?_eq_getElem _)
 have src:∀ i,o≤i→i < q→∃ j,o≤j∧j < q∧ky key (putAt o arr w) i = ky key arr j:=fun i h hi=>by
  rw [inn i h hi]
  have hm:=pw.mem_iff.mp (List.getElem_mem (l:=w) (n:=i - o) (by omega))
  rcases List.mem_append.mp hm with z | z
  ·obtain ⟨j,a1,a2,a3,a4⟩:=ext_mem z
   exact ⟨j,a1,by omega,by rw [ky_get a3,a4]⟩
  ·obtain ⟨j,a1,a2,a3,a4⟩:=ext_mem z
   exact ⟨j,by omega,a2,by rw [ky_get a3,a4]⟩
 intro i j hi hij hj
 by_cases i1:i < o
 ·rw [out i (.inl i1)]
  by_cases j1:j < o
  ·rw [out j (.inl j1)]; exact u1 i j hi hij (by omega)
  ·by_cases j2:j < q
   ·obtain ⟨j',a1,a2,a3⟩:=src j (by omega) j2
    rw [a3]
    by_cases c:j' < sb
    ·exact u1 i j' hi (by omega) c
    ·exact le_tr (g1 i hi i1) (u2 sb j' (Nat.le_refl _) (by omega) (by omega))
   ·rw [out j (.inr (by omega))]
    exact le_tr (g1 i hi i1) (u2 sb j (Nat.le_refl _) (by omega) hj)
 ·by_cases i2:i < q
  ·by_cases j2:j < q
   ·rw [inn i (by omega) i2,inn j (by omega) j2]
    by_cases c:i = j
    ·subst c; exact le_refl' _
    ·exact List.pairwise_iff_getElem.mp sw (i - o) (j - o) (by omega) (by omega) (by omega)
   ·rw [out j (.inr (by omega))]
    obtain ⟨i',a1,a2,a3⟩:=src i (by omega) i2
    rw [a3]
    by_cases c:i' < sb
    ·exact le_tr (u1 i' (sb - 1) (by omega) (by omega) (by omega)) (g2 j (by omega) hj)
    ·exact u2 i' j (by omega) (by omega) hj
  ·rw [out i (.inr (by omega)),out j (.inr (by omega))]
   exact u2 i j (by omega) hij hj
theorem mergeAt_ok (C:Cp M A E s κ key Itm) {st:SortSt} (o:Ok κ Itm n st) {pre post:List (Nat×Nat×Nat)} {sa na pw nb pw2:Nat} (hp:(pendingOf st).toList = pre++(sa,na,pw) :: (sa+na,nb,pw2) :: post) (h1:0 < na) (h2:0 < nb) (hn:sa+na+nb≤n)
  (u1:Up key (arrOf st) sa (sa+na)) (u2:Up key (arrOf st) (sa+na) (sa+na+nb)) {Q:Bool→SortSt→Prop}
  (h:∀ st',(arrOf st').Perm (arrOf st)→(∀ i,(i < sa∨sa+na+nb≤i)→(arrOf st')[i]? = (arrOf st)[i]?)→Up key (arrOf st') sa (sa+na+nb)→(pendingOf st').toList = pre++(sa,na+nb,pw) :: post→kindOf st' = kindOf st→failedOf st' = failedOf st→Q true st') :
  wpS M A E s (mergeAt' pre.length) Q st:=by
 rw [mergeAt'_eq]
 refine wpS_bind (wpS_get ?_)
 have e1:(pendingOf st)[pre.length]? = some (sa,na,pw):=by rw [← Array.getElem?_toList,hp]; simp
 have e2:(pendingOf st)[pre.length+1]? = some (sa+na,nb,pw2):=by rw [← Array.getElem?_toList,hp,List.getElem?_append_right (by omega)]; simp
 rw [e1,e2]
 refine wpS_bind (wpS_set ?_)
 have sz:=o.size
 have hsb:sa+na < (arrOf st).size:=by omega
 have hpend:(((pendingOf st).setIfInBounds pre.length (sa,na+nb,pw)).eraseIdxIfInBounds (pre.length+1)).toList = pre++(sa,na+nb,pw) :: post:=by
  rw [Array.toList_eraseIdxIfInBounds,Array.toList_setIfInBounds,hp,List.set_append_right _ _ (Nat.le_refl _),List.eraseIdx_append_of_length_le (by omega)]
  simp
 generalize hst1:setPending st (((pendingOf st).setIfInBounds pre.length (sa,na+nb,pw)).eraseIdxIfInBounds (pre.length+1)) = st1
 have a1:arrOf st1 = arrOf st:=by rw [← hst1]
 have k1:kindOf st1 = κ:=by rw [← hst1]; exact o.kind
 have f1:failedOf st1 = none:=by rw [← hst1]; exact o.failed
 have p1:(pendingOf st1).toList = pre++(sa,na+nb,pw) :: post:=by rw [← hst1]; exact hpend
 clear hst1 hpend
 have kin:∀ {j:Nat} (hj:j < (arrOf st).size),Itm (arrOf st)[j]:=fun {j} hj=>o.itm _ (Array.getElem_mem hj)
 have stay:(∀ i j,sa≤i→i < sa+na→sa+na≤j→j < sa+na+nb→leP (ky key (arrOf st) i) (ky key (arrOf st) j) = true)→Q true st1:=fun hx=>by
  refine h st1 (a1 ▸ Array.Perm.refl _) (fun i _=>by rw [a1]) (fun i j hi hij hj=>?_) p1 (k1.trans o.kind.symm) (f1.trans o.failed.symm)
  rw [a1]
  by_cases c1:j < sa+na
  ·exact u1 i j hi hij c1
  ·by_cases c2:i < sa+na
   ·exact hx i j hi c2 (by omega) hj
   ·exact u2 i j (by omega) hij hj
 refine wpS_bind (elem_ok (getElem?_pos _ (sa+na) hsb) ?_)
 refine wpS_bind (gallop_ok C k1 (by omega) (by omega) o.itm (kin hsb) (fun i j hij hj e=>?_) fun r hr g1 g2=>?_)
 ·rw [bey_f] at e ⊢
  exact le_tr (u1 (sa+i) (sa+j) (by omega) (by omega) (by omega)) e
 dsimp only
 have g1':∀ i,sa≤i→i < sa+r→leP (ky key (arrOf st) i) (ky key (arrOf st) (sa+na)) = true:=fun i hi hr'=>by
  have:=g1 (i - sa) (by omega)
  rw [bey_f,show sa+(i - sa) = i by omega,← ky_get (key:=key) hsb] at this
  exact this
 by_cases c1:(na - r == 0) = true
 ·rw [if_pos c1]
  have c1':na - r = 0:=by simpa using c1
  exact wpS_pure (stay fun i j hi hi2 hj hj2=>le_tr (g1' i hi (by omega)) (u2 (sa+na) j (Nat.le_refl _) hj hj2))
 rw [if_neg c1]
 have c1':na - r ≠ 0:=by simpa using c1
 have hl:sa+na - 1 < (arrOf st).size:=by omega
 rw [show sa+r+(na - r) - 1 = sa+na - 1 by omega]
 refine wpS_bind (elem_ok (getElem?_pos _ (sa+na - 1) hl) ?_)
 refine wpS_bind (gallop_ok C k1 (by omega) (by omega) o.itm (kin hl) (fun i j hij hj e=>?_) fun r2 hr2 g3 g4=>?_)
 ·rw [bey_t] at e ⊢
  exact le_lt (u2 (sa+na+i) (sa+na+j) (by omega) (by omega) (by omega)) e
 dsimp only
 have g3':∀ i,sa+na≤i→i < sa+na+r2→leP (ky key (arrOf st) i) (ky key (arrOf st) (sa+na - 1)) = true:=fun i hi hr'=>by
  have:=g3 (i - (sa+na)) (by omega)
  rw [bey_t,show sa+na+(i - (sa+na)) = i by omega,← ky_get (key:=key) hl] at this
  exact le_of_lt this
 have g4':∀ i,sa+na+r2≤i→i < sa+na+nb→leP (ky key (arrOf st) (sa+na - 1)) (ky key (arrOf st) i) = true:=fun i hi hr'=>by
  have:=g4 (i - (sa+na)) (by omega) (by omega)
  rw [bey_t,show sa+na+(i - (sa+na)) = i by omega,← ky_get (key:=key) hl] at this
  exact le_of_nlt this
 have g2':∀ i,sa+r≤i→i < sa+na→leP (ky key (arrOf st) (sa+na)) (ky key (arrOf st) i) = true:=fun i hi hr'=>by
  have:=g2 (i - sa) (by omega) (by omega)
  rw [bey_f,show sa+(i - sa) = i by omega,← ky_get (key:=key) hsb] at this
  exact le_of_nle this
 unfold joinL putM
 by_cases c2:(r2 == 0) = true
 ·rw [if_pos c2]
  have c2':r2 = 0:=by simpa using c2
  exact wpS_pure (stay fun i j hi hi2 hj hj2=>le_tr (u1 i (sa+na - 1) hi (by omega) (by omega)) (g4' j (by omega) hj2))
 rw [if_neg c2]
 have c2':r2 ≠ 0:=by simpa using c2
 have mg:Mg Itm key ((arrOf st).extract (sa+r) (sa+na)) ((arrOf st).extract (sa+na) (sa+na+r2)):=by
  refine ⟨ext_itm o.itm,ext_itm o.itm,ext_srt (fun i j hi=>u1 i j (by omega)) (by omega),ext_srt (fun i j hi hij hj=>u2 i j hi hij (by omega)) (by omega),fun y hy x hx=>?_,fun x hx y hy=>?_,by simp; omega,by simp; omega⟩
  ·obtain ⟨j,b1,b2,b3,rfl⟩:=ext_mem hy
   obtain ⟨i,b4,e⟩:=drop_mem hx
   simp at b4
   rw [← e]
   have:=g3' j b1 b2
   rw [ky_get b3,ky_get hl] at this
   simp only [Array.getElem_extract,Array.size_extract]
   have e2:sa+r+(min (sa+na) (arrOf st).size - (sa+r) - 1+i) = sa+na - 1:=by omega
   show leP _ _ = true
   simp only [e2]
   exact this
  ·obtain ⟨j,b1,b2,e⟩:=take_mem hy
   obtain ⟨i,d1,d2,d3,rfl⟩:=ext_mem hx
   have j0:j = 0:=by omega
   subst j0
   rw [← e]
   have:=g2' i d1 d2
   rw [ky_get hsb,ky_get d3] at this
   simp only [Array.getElem_extract]
   exact this
 have fin:∀ (w:Array Keyed) (st2:SortSt),Eg st1 st2→Res key ((arrOf st).extract (sa+r) (sa+na)) ((arrOf st).extract (sa+na) (sa+na+r2)) w→Q true (setArr st2 (putAt (sa+r) (arrOf st2) w.toList)):=fun w st2 eg res=>by
  have ea:arrOf st2 = arrOf st:=eg.arr.trans a1
  have wl:w.toList.length = na - r+r2:=by rw [res.1.length_eq]; simp; omega
  refine h _ ?_ (fun i hi=>?_) ?_ (eg.pend ▸ p1) (eg.kind.trans (k1.trans o.kind.symm)) (eg.failed.trans (f1.trans o.failed.symm))
  ·show (putAt (sa+r) (arrOf st2) w.toList).Perm _
   rw [ea]
   exact put_perm (p:=sa+na) (q:=sa+na+r2) (by omega) (by omega) (by omega) res.1
  ·show (putAt (sa+r) (arrOf st2) w.toList)[i]? = _
   rw [ea,put_at (by omega),if_neg (by omega)]
  ·show Up key (putAt (sa+r) (arrOf st2) w.toList) _ _
   rw [ea]
   exact put_up (q:=sa+na+r2) (by omega) (by omega) (by omega) (by omega) (by omega) u1 u2 res.1 res.2 g1' g4'
 have f2:∀ st2:SortSt,Eg st1 st2→∀ w,(failedOf (setArr st2 (putAt (sa+r) (arrOf st2) w))).isNone = true:=fun st2 eg w=>by
  show (failedOf st2).isNone = true
  rw [eg.failed,f1]; rfl
 by_cases c3:na - r≤r2
 ·rw [if_pos c3]
  refine wpS_bind (mergeLo_ok C mg k1 fun w st2 eg res=>wpS_bind (wpS_modify (wpS_bind (wpS_get (wpS_pure ?_)))))
  rw [f2 st2 eg]
  exact fin w st2 eg res
 ·rw [if_neg c3]
  refine wpS_bind (mergeHi_ok C mg k1 fun w st2 eg res=>wpS_bind (wpS_modify (wpS_bind (wpS_get (wpS_pure ?_)))))
  rw [f2 st2 eg]
  exact fin w st2 eg res
end
end SrtB
set_option maxRecDepth 100000
namespace SrtB
open PySem PySem.W PyProof.Rows Geo Srt
def Rn (key:Keyed→Pt) (arr:Array Keyed):Nat→List (Nat×Nat×Nat)→Nat→Prop
 | p,[],q=>p = q
 | p,(x,m,_) :: l,q=>x = p∧0 < m∧Up key arr p (p+m)∧Rn key arr (p+m) l q
section
variable {key:Keyed→Pt} {arr arr':Array Keyed}
theorem Rn.len:∀ {l:List (Nat×Nat×Nat)} {p q:Nat},Rn key arr p l q→p+l.length≤q
 | [],p,q,h=>by simp [show p = q from h]
 | (x,m,w) :: l,p,q,h=>by
  have:=Rn.len h.2.2.2
  have:=h.2.1
  rw [List.length_cons]; omega
theorem Up.congr {p q:Nat} (u:Up key arr p q) (h:∀ i,p≤i→i < q→ky key arr' i = ky key arr i):Up key arr' p q:=fun i j hi hij hj=>by
 rw [h i hi (by omega),h j (by omega) hj]; exact u i j hi hij hj
theorem Rn.congr:∀ {l:List (Nat×Nat×Nat)} {p q:Nat},Rn key arr p l q→(∀ i,p≤i→i < q→ky key arr' i = ky key arr i)→Rn key arr' p l q
 | [],_,_,h,_=>h
 | (x,m,w) :: l,p,q,h,k=>by
  have:=Rn.len h.2.2.2
  exact ⟨h.1,h.2.1,h.2.2.1.congr fun i hi hi2=>k i hi (by omega),Rn.congr h.2.2.2 fun i hi=>k i (by omega)⟩
theorem Rn.split:∀ {l1 l2:List (Nat×Nat×Nat)} {p q:Nat},Rn key arr p (l1++l2) q→∃ m,Rn key arr p l1 m∧Rn key arr m l2 q
 | [],_,p,_,h=>⟨p,rfl,h⟩
 | (x,m,w) :: l1,l2,p,q,h=>by
  obtain ⟨r,a,b⟩:=Rn.split h.2.2.2
  exact ⟨r,⟨h.1,h.2.1,h.2.2.1,a⟩,b⟩
theorem Rn.join:∀ {l1 l2:List (Nat×Nat×Nat)} {p m q:Nat},Rn key arr p l1 m→Rn key arr m l2 q→Rn key arr p (l1++l2) q
 | [],_,p,m,_,h,k=>by rw [show p = m from h]; exact k
 | (x,n,w) :: l1,l2,p,m,q,h,k=>⟨h.1,h.2.1,h.2.2.1,Rn.join h.2.2.2 k⟩
theorem Rn.power (w:Nat):∀ {l:List (Nat×Nat×Nat)} {i p q:Nat},Rn key arr p l q→Rn key arr p (l.modify i fun x=>(x.1,x.2.1,w)) q
 | [],i,_,_,h=>by rw [List.modify_nil]; exact h
 | (x,m,v) :: l,0,p,q,h=>by rw [List.modify_zero_cons]; exact h
 | (x,m,v) :: l,i+1,p,q,h=>by rw [List.modify_succ_cons]; exact ⟨h.1,h.2.1,h.2.2.1,Rn.power w h.2.2.2⟩
end
section
variable {M:Model} {A:Around} {E:Value→Shared→Prop} {s:Shared} {κ:SortKind} {key:Keyed→Pt} {Itm:Keyed→Prop} {n:Nat}
theorem ite_le {c:Prop} [Decidable c] {a b m:Nat} (h1:a≤m) (h2:b≤m):(if c then a else b)≤m:=by split <;> assumption
theorem step_ok (C:Cp M A E s κ key Itm) {st:SortSt} (o:Ok κ Itm n st) {q i:Nat} (hq:q≤n) (hr:Rn key (arrOf st) 0 (pendingOf st).toList q) (hi:i+1 < (pendingOf st).size) {Q:Bool→SortSt→Prop}
  (h:∀ st',Ok κ Itm n st'→(arrOf st').Perm (arrOf st)→(∀ j,q≤j→(arrOf st')[j]? = (arrOf st)[j]?)→Rn key (arrOf st') 0 (pendingOf st').toList q→(pendingOf st').size+1 = (pendingOf st).size→Q true st'):wpS M A E s (mergeAt' i) Q st:=by
 have ll:i+1 < (pendingOf st).toList.length:=by simpa using hi
 obtain ⟨x1,x2,e⟩:∃ x1 x2,(pendingOf st).toList = (pendingOf st).toList.take i++x1 :: x2 :: (pendingOf st).toList.drop (i+2):=by
  refine ⟨(pendingOf st).toList[i],(pendingOf st).toList[i+1],?_⟩
  conv=>lhs; rw [← List.take_append_drop i (pendingOf st).toList]
  rw [List.drop_eq_getElem_cons (by omega),List.drop_eq_getElem_cons (by omega)]
 have pl:((pendingOf st).toList.take i).length = i:=by rw [List.length_take]; omega
 generalize hpre:(pendingOf st).toList.take i = pre at e pl
 generalize hpost:(pendingOf st).toList.drop (i+2) = post at e
 clear hpre hpost
 have hr':=hr
 rw [e] at hr'
 obtain ⟨m,r1,r2⟩:=Rn.split hr'
 obtain ⟨sa,na,pw⟩:=x1
 obtain ⟨sb,nb,pw2⟩:=x2
 obtain ⟨rfl,h1,u1,rfl,h2,u2,r3⟩:=r2
 have l3:=Rn.len r3
 rw [← pl]
 refine mergeAt_ok C o e h1 h2 (by omega) u1 u2 fun st' pm out up pe kk ff=>?_
 refine h st' ⟨kk.trans o.kind,ff.trans o.failed,pm.size_eq.trans o.size,fun x hx=>o.itm x (pm.mem_iff.mp hx)⟩ pm (fun j hj=>out j (.inr (by omega))) ?_ ?_
 ·rw [pe]
  refine Rn.join (Rn.congr r1 fun i _ hi=>ky_congr (out i (.inl hi))) ⟨rfl,by omega,by rw [← Nat.add_assoc]; exact up,?_⟩
  rw [← Nat.add_assoc]
  exact Rn.congr r3 fun i hi _=>ky_congr (out i (.inr hi))
 ·have e1:=congrArg List.length e
  have e2:=congrArg List.length pe
  simp at e1 e2
  omega
theorem runs_ok (C:Cp M A E s κ key Itm) {st:SortSt} (o:Ok κ Itm n st) (hp0:pendingOf st = #[]) (h2:2≤n) {Q:Unit→SortSt→Prop}
  (h:∀ st',Ok κ Itm n st'→(arrOf st').Perm (arrOf st)→Up key (arrOf st') 0 n→Q () st'):wpS M A E s sortRuns' Q st:=by
 rw [sortRuns'_eq]
 dsimp only
 refine wpS_bind (wpS_get ?_)
 rw [o.size]
 generalize hmr:minRun' n n 0 = mr
 clear hmr
 refine wpS_bind (wpS_mono (wpS_forRange (I:=fun x c st'=>∃ lo,c = (none,lo)∧Ok κ Itm n st'∧(arrOf st').Perm (arrOf st)∧Rn key (arrOf st') 0 (pendingOf st').toList lo∧lo≤n∧(x≤lo))
  (Q:=fun c st'=>c = (none,n)∧Ok κ Itm n st'∧(arrOf st').Perm (arrOf st)∧Rn key (arrOf st') 0 (pendingOf st').toList n) ?step ?fin ⟨0,rfl,o,Array.Perm.refl _,by rw [hp0]; rfl,by omega,by omega⟩) ?post)
 case fin =>
  rintro _ st' ⟨lo,rfl,o',pm,rn,hl,hx⟩
  obtain rfl:lo = n:=by omega
  exact ⟨rfl,o',pm,rn⟩
 case step =>
  rintro x _ st0 _ hx ⟨lo,rfl,o0,pm0,rn0,hl,hxl⟩
  dsimp only
  by_cases hge:lo ≥ n
  ·rw [if_pos hge]
   obtain rfl:lo = n:=by omega
   exact wpS_pure ⟨rfl,o0,pm0,rn0⟩
  rw [if_neg hge]
  refine wpS_bind (count_ok C o0 (by omega) (by omega) fun found st1 mv1 hf1 hf2 up1=>?_)
  dsimp only
  have o1:=o0.mv mv1
  have rn1:Rn key (arrOf st1) 0 (pendingOf st1).toList lo:=by
   rw [mv1.pend]
   exact Rn.congr rn0 fun i _ hi=>ky_congr (mv1.low i hi)
  have pm1:=mv1.perm.trans pm0
  by_cases hlt:found < mr
  case' pos =>
   rw [if_pos hlt]
   refine wpS_bind (wpS_lift (wpAny_rule ⟨rfl,?_⟩))
   refine wpS_bind (bin_ok C o1 (m:=min (n - lo) mr) (by omega) (by omega) up1 fun st2 mv2 up2=>?_)
   simp only [Bool.not_true,Bool.false_eq_true,if_false]
   have o2:=o1.mv mv2
   have rn2:Rn key (arrOf st2) 0 (pendingOf st2).toList lo:=by
    rw [mv2.pend]
    exact Rn.congr rn1 fun i _ hi=>ky_congr (mv2.low i hi)
   have pm2:=mv2.perm.trans pm1
   have m0:0 < min (n - lo) mr:=by omega
   have ml:lo+min (n - lo) mr≤n:=by omega
   generalize min (n - lo) mr = m at m0 ml up2 ⊢
  case' neg =>
   rw [if_neg hlt]
   obtain ⟨st2,e2⟩:∃ st2,st2 = st1:=⟨_,rfl⟩
   obtain ⟨m,em⟩:∃ m,m = found:=⟨_,rfl⟩
   rw [← e2] at o1 rn1 pm1 up1 ⊢
   rw [← em] at up1 ⊢
   have o2:=o1
   have rn2:=rn1
   have pm2:=pm1
   have up2:=up1
   have m0:0 < m:=by omega
   have ml:lo+m≤n:=by omega
  all_goals
   refine wpS_bind (wpS_get ?_)
   cases hb:(pendingOf st2).back? with
   | none =>
    dsimp only
    refine wpS_bind (wpS_modify (wpS_pure ⟨lo+m,rfl,⟨o2.kind,o2.failed,o2.size,o2.itm⟩,pm2,?_,ml,by omega⟩))
    show Rn key (arrOf st2) 0 ((pendingOf st2).push (lo,m,0)).toList (lo+m)
    rw [Array.toList_push]
    exact Rn.join rn2 ⟨rfl,m0,up2,rfl⟩
   | some b =>
    obtain ⟨s1,n1,w1⟩:=b
    dsimp only
    refine wpS_bind (wpS_mono (wpS_forRange (I:=fun _ c st'=>c = (none,())∧Ok κ Itm n st'∧(arrOf st').Perm (arrOf st)∧Rn key (arrOf st') 0 (pendingOf st').toList lo∧Up key (arrOf st') lo (lo+m))
     (Q:=fun c st'=>c = (none,())∧Ok κ Itm n st'∧(arrOf st').Perm (arrOf st)∧Rn key (arrOf st') 0 (pendingOf st').toList lo∧Up key (arrOf st') lo (lo+m)) ?_ (fun _ _ hh=>hh) ⟨rfl,o2,pm2,rn2,up2⟩) ?_)
    ·rintro z _ st3 _ _ ⟨rfl,o3,pm3,rn3,up3⟩
     refine wpS_bind (wpS_get ?_)
     by_cases hsz:(pendingOf st3).size > 1
     ·rw [if_pos hsz]
      obtain ⟨y,hy⟩:∃ y,(pendingOf st3)[(pendingOf st3).size - 2]? = some y:=⟨_,getElem?_pos _ _ (by omega)⟩
      rw [hy]
      obtain ⟨y1,y2,y3⟩:=y
      dsimp only
      split
      ·exact wpS_pure ⟨rfl,o3,pm3,rn3,up3⟩
      ·refine wpS_bind (step_ok C o3 (by omega) rn3 (by omega) fun st4 o4 pm4 keep rn4 _=>?_)
       simp only [Bool.not_true,Bool.false_eq_true,if_false]
       exact wpS_pure ⟨rfl,o4,pm4.trans pm3,rn4,up3.congr fun i hi _=>ky_congr (keep i hi)⟩
     ·rw [if_neg hsz]
      exact wpS_pure ⟨rfl,o3,pm3,rn3,up3⟩
    ·rintro _ st3 ⟨rfl,o3,pm3,rn3,up3⟩
     dsimp only
     refine wpS_bind (wpS_modify (wpS_bind (wpS_modify (wpS_pure ⟨lo+m,rfl,⟨o3.kind,o3.failed,o3.size,o3.itm⟩,pm3,?_,ml,by omega⟩))))
     show Rn key (arrOf st3) 0 (((pendingOf st3).modify ((pendingOf st3).size - 1) _).push (lo,m,0)).toList (lo+m)
     rw [Array.toList_push,Array.toList_modify]
     exact Rn.join (Rn.power _ rn3) ⟨rfl,m0,up3,rfl⟩
 case post =>
  rintro _ st1 ⟨rfl,o1,pm1,rn1⟩
  dsimp only
  have l1:=Rn.len rn1
  refine wpS_bind (wpS_mono (wpS_forRange (I:=fun x c st'=>c = (none,())∧Ok κ Itm n st'∧(arrOf st').Perm (arrOf st)∧Rn key (arrOf st') 0 (pendingOf st').toList n∧((pendingOf st').size+x≤n∨(pendingOf st').size≤1))
   (Q:=fun c st'=>c = (none,())∧Ok κ Itm n st'∧(arrOf st').Perm (arrOf st)∧Rn key (arrOf st') 0 (pendingOf st').toList n∧(pendingOf st').size≤1) ?step ?fin ⟨rfl,o1,pm1,rn1,.inl (by simpa using l1)⟩) ?post)
  case fin =>
   rintro _ st2 ⟨rfl,o2,pm2,rn2,hs⟩
   exact ⟨rfl,o2,pm2,rn2,by omega⟩
  case step =>
   rintro x _ st2 _ hx ⟨rfl,o2,pm2,rn2,hs⟩
   refine wpS_bind (wpS_get ?_)
   by_cases c:(pendingOf st2).size≤1
   ·rw [if_pos c]
    exact wpS_pure ⟨rfl,o2,pm2,rn2,c⟩
   ·rw [if_neg c]
    refine wpS_bind (step_ok C o2 (Nat.le_refl _) rn2 (Nat.lt_of_le_of_lt (Nat.add_le_add_right (ite_le (Nat.sub_le _ _) (Nat.le_refl _)) 1) (by omega)) fun st3 o3 pm3 _ rn3 sz=>?_)
    simp only [Bool.not_true,Bool.false_eq_true,if_false]
    exact wpS_pure ⟨rfl,o3,pm3.trans pm2,rn3,by omega⟩
  case post =>
   rintro _ st2 ⟨rfl,o2,pm2,rn2,hs⟩
   refine wpS_pure (h st2 o2 pm2 ?_)
   have hl:(pendingOf st2).toList.length≤1:=by simpa using hs
   match hq:(pendingOf st2).toList,hl with
   | [],_ =>
    rw [hq] at rn2
    have:0 = n:=rn2
    omega
   | [(a1,a2,a3)],_ =>
    rw [hq] at rn2
    obtain ⟨_,_,up,e⟩:=rn2
    have:0+a2 = n:=e
    rw [← this]; exact up
   | _ :: _ :: _,hl=>simp at hl
end
end SrtB
set_option maxRecDepth 100000
namespace L2
open PySem PySem.Spec PyProof.Rows Geo
def IsPt (H:Hp) (v:V) (p:Pt):Prop:=∃ a,v = .ref a∧H a = some (.tup [.int p.1,.int p.2])
abbrev ArePts (H:Hp):List V→List Pt→Prop:=Paired (IsPt H)
def Keep (H H':Hp):Prop:=∀ a xs,H a = some (.tup xs)→H' a = some (.tup xs)
theorem Keep.refl (H:Hp):Keep H H:=fun _ _ h=>h
theorem Keep.trans {H1 H2 H3:Hp} (a:Keep H1 H2) (b:Keep H2 H3):Keep H1 H3:=fun p xs h=>b p xs (a p xs h)
theorem Keep.new {H:Hp} {p:Addr} (h:H p = none) (o:HO):Keep H (upd H p o):=fun a xs e=>by rw [upd_ne (ne_of_none e h)]; exact e
theorem Keep.lst {H:Hp} {p:Addr} {xs:List V} (h:H p = some (.lst xs)) (o:HO):Keep H (upd H p o):=fun a ys e=>by rw [upd_ne (ne_of e h (by intro z; cases z))]; exact e
theorem IsPt.keep {H H':Hp} {v:V} {p:Pt} (h:IsPt H v p) (k:Keep H H'):IsPt H' v p:=by
 obtain ⟨a,e,h⟩:=h; exact ⟨a,e,k _ _ h⟩
theorem ArePts.keep {H H':Hp} {vs:List V} {ps:List Pt} (h:ArePts H vs ps) (k:Keep H H'):ArePts H' vs ps:=Paired.mapP h fun _ _ z=>z.keep k
theorem IsPt.inj {H:Hp} {v:V} {p q:Pt} (h:IsPt H v p) (h':IsPt H v q):p = q:=by
 obtain ⟨a,rfl,h⟩:=h
 obtain ⟨b,e,h'⟩:=h'
 cases e
 rw [h] at h'
 injection h' with h'; injection h' with h'; injection h' with e1 h'; injection h' with e2 _
 injection e1 with e1; injection e2 with e2
 exact Prod.ext e1 e2
theorem Pair.get {α β:Type} {F:α→β→Prop}:∀ {xs:List α} {ys:List β} {i:Nat} {x:α},Paired F xs ys→xs[i]? = some x→∃ y,ys[i]? = some y∧F x y
 | _,_,_,_,.nil,e=>by simp at e
 | _,_,0,_,.cons r _,e=>by simp at e; subst e; exact ⟨_,rfl,r⟩
 | _,_,i+1,x,.cons _ t,e=>by
  obtain ⟨u,h1,h2⟩:=Pair.get (i:=i) (x:=x) t (by simpa using e)
  exact ⟨u,by simpa using h1,h2⟩
theorem Pair.get' {α β:Type} {F:α→β→Prop}:∀ {xs:List α} {ys:List β} {i:Nat} {y:β},Paired F xs ys→ys[i]? = some y→∃ x,xs[i]? = some x∧F x y
 | _,_,_,_,.nil,e=>by simp at e
 | _,_,0,_,.cons r _,e=>by simp at e; subst e; exact ⟨_,rfl,r⟩
 | _,_,i+1,x,.cons _ t,e=>by
  obtain ⟨u,h1,h2⟩:=Pair.get' (i:=i) (y:=x) t (by simpa using e)
  exact ⟨u,by simpa using h1,h2⟩
theorem Pair.append {α β:Type} {F:α→β→Prop}:∀ {xs xs':List α} {ys ys':List β},Paired F xs ys→Paired F xs' ys'→Paired F (xs++xs') (ys++ys')
 | _,_,_,_,.nil,s=>s
 | _,_,_,_,.cons r t,s=>.cons r (Pair.append t s)
theorem Pair.take {α β:Type} {F:α→β→Prop}:∀ {xs:List α} {ys:List β} (n:Nat),Paired F xs ys→Paired F (xs.take n) (ys.take n)
 | _,_,0,_=>by simp; exact .nil
 | _,_,_+1,.nil=>.nil
 | _,_,n+1,.cons r t=>.cons r (Pair.take n t)
theorem Pair.drop {α β:Type} {F:α→β→Prop}:∀ {xs:List α} {ys:List β} (n:Nat),Paired F xs ys→Paired F (xs.drop n) (ys.drop n)
 | _,_,0,r=>r
 | _,_,_+1,.nil=>.nil
 | _,_,n+1,.cons _ t=>Pair.drop n t
theorem Pair.reverse {α β:Type} {F:α→β→Prop}:∀ {xs:List α} {ys:List β},Paired F xs ys→Paired F xs.reverse ys.reverse
 | _,_,.nil=>.nil
 | _,_,.cons r t=>by rw [List.reverse_cons,List.reverse_cons]; exact Pair.append (Pair.reverse t) (.cons r .nil)
theorem Pair.dropLast {α β:Type} {F:α→β→Prop} {xs:List α} {ys:List β} (r:Paired F xs ys):Paired F xs.dropLast ys.dropLast:=by
 rw [List.dropLast_eq_take,List.dropLast_eq_take,r.length]; exact Pair.take _ r
section
variable {X:Cx} {pins:List (Addr×Obj)} {σ:St} {H:Hp} {s:Shared}
theorem ns_one {h:Heap} {L:Addr} {m m':Str→Option Value} (a:h.Ns L m) (b:h.Ns L m'):m = m':=by
 obtain ⟨o,es,ep,ho,hd,hk,hm⟩:=a
 obtain ⟨o',es',ep',ho',hd',hk',hm'⟩:=b
 rw [ho] at ho'; cases ho'
 rw [hd] at hd'; cases hd'
 funext x
 rw [← hm x,← hm' x]
theorem news_keeps {h':Heap} {m:Str→Option Value} {more:List (Addr×Obj)} (I:Inv X pins σ H s) (F:Fr X.base X.env.locals h' m) (N:News X.base X.env.locals h' (more++allNews X.base s.heap X.env.locals)) :
  ∀ b o,b ≠ X.env.locals→s.heap.get? b = some o→h'.get? b = some o:=fun b o hb e=>by
 cases q:X.base.get? b with
 | some u =>
  have:=I.bk b u q
  rw [e] at this; cases this
  exact F.keep b _ q
 | none=>exact (N (b,o) (List.mem_append_right _ (mem_allNews hb q e))).1
theorem Inv.newsNew {h':Heap} {m:Str→Option Value} {D:Addr} {ob:Obj} {o:HO} {t':Nat} (I:Inv X pins σ H s) (hm:s.heap.Ns X.env.locals m) (F:Fr X.base X.env.locals h' m) (N:News X.base X.env.locals h' ((D,ob) :: allNews X.base s.heap X.env.locals))
  (hD:s.heap.get? D = none) (new:ObjOk X.prog X.w (upd H D o) h' D o):H D = none∧Inv X pins σ (upd H D o) { s with heap:=h',toks:=t' }:=by
 have kp:=news_keeps (more:=[(D,ob)]) I F N
 have nD:H D = none:=by
  cases q:H D with
  | none=>rfl
  | some u =>
   have:=I.hok.lt q
   obtain ⟨z⟩:Nonempty (∃ w,s.heap.get? D = some w):=⟨by
    have x:=I.hok D u q
    cases u with
    | lst xs=>obtain ⟨_,_,_,_,e⟩:=x; exact ⟨_,e⟩
    | tup xs=>obtain ⟨_,_,_,⟨ob,e,_⟩⟩:=x; exact ⟨_,e⟩
    | dK kvs=>obtain ⟨_,_,_,_,o,_,_,e,_⟩:=x; exact ⟨_,e⟩
    | dT kvs=>obtain ⟨_,_,_,_,o,_,_,e,_⟩:=x; exact ⟨_,e⟩
    | set S n=>obtain ⟨o,_,_,_,e,_⟩:=x; exact ⟨_,e⟩
    | ins C dx fs=>obtain ⟨_,_,_,e,_⟩:=x; exact ⟨_,e⟩
    | own y=>obtain ⟨_,e⟩:=x; exact ⟨_,e⟩
    | xd fs=>obtain ⟨_,⟨_,_,_,e,_⟩,_⟩:=x; exact ⟨_,e⟩
    | rng lo hi=>obtain ⟨_,_,_,e⟩:=x; exact ⟨_,e⟩
    | frz ob u=>obtain ⟨e,_⟩:=x; exact ⟨_,e⟩
    | tbl ps=>exact ⟨_,(show s.heap.get? D = some _ from x)⟩
    | met f y=>exact ⟨_,(show s.heap.get? D = some _ from x)⟩
    | ext φ=>obtain ⟨_,⟨_,e⟩,_⟩:=x; exact ⟨_,e⟩⟩
   obtain ⟨w,z⟩:=z
   rw [hD] at z; cases z
 have neD:∀ b u,H b = some u→b ≠ D:=fun b u e=>ne_of_none e nD
 have neL:∀ b u,H b = some u→b ≠ X.env.locals:=fun b u e=>ne_of_none e I.free
 refine ⟨nD,I.step (g':=s.gens) (d':=s.drawn) (ch:=[]) (fun _ z=>nomatch z) (fun b ob hb _ _ e _=>kp b ob hb e) (fun b ob hb _ _ e _=>⟨ob.slots,kp b ob hb e⟩) (fun b ob _ e n=>?_) (fun b ob _ e=>?_)
  (fun b xs e=>by rw [upd_ne (neD b _ e)]; exact e) (fun b ob u e=>by rw [upd_ne (neD b _ e)]; exact e) (fun b ps e=>⟨#[],by rw [upd_ne (neD b _ e),e]; simp⟩) (fun m' hm'=>?_) (fun b u e=>?_) I.bare⟩
 ·have:b ≠ D:=fun z=>by rw [z,hD] at e; cases e
  rw [upd_ne this]; exact n
 ·by_cases hb:b = X.env.locals
  ·obtain ⟨oL,_,_,hoL,_⟩:=F.ns
   exact ⟨oL,by rw [hb]; exact hoL⟩
  ·exact ⟨ob,kp b ob hb e⟩
 ·rw [← ns_one hm hm']; exact F.ns
 ·by_cases hb:b = D
  ·subst hb; rw [upd_same] at e; cases e; exact new
  ·rw [upd_ne hb] at e
   refine (I.hok b u e).stay (fun c v hc q=>?_) (fun c q=>by rw [upd_ne (neD c _ q)]; exact q) fun c xs q=>by rw [upd_ne (neD c _ q)]; exact q
   rcases hc with z | z
   ·rw [z] at q ⊢; exact kp b v (neL b u e) q
   ·exact kp c v (neL c _ z) q
end
end L2
set_option maxRecDepth 100000
namespace L2
open PySem PySem.Spec PyProof.Rows Geo PySem.W
def TupAt (h:Heap) (v:Value) (p:Pt):Prop:=∃ b o t u n,v = .ref b∧h.get? b = some o∧o.cls = .type "tuple"∧o.data = .seq #[.int p.1 t,.int p.2 u] n
theorem TupAt.at {h h':Heap} {v:Value} {p:Pt} (x:TupAt h v p) (k:∀ b o,v = .ref b→h.get? b = some o→h'.get? b = some o):TupAt h' v p:=by
 obtain ⟨b,o,t,u,n,e,g,c,d⟩:=x
 exact ⟨b,o,t,u,n,e,k b o e g,c,d⟩
theorem ltP_eq {p q:Pt} (h:p.1 = q.1):ltP p q = decide (p.2 < q.2):=by unfold ltP; simp [h]
theorem ltP_ne {p q:Pt} (h:p.1 ≠ q.1):ltP p q = decide (p.1 < q.1):=by unfold ltP; simp [h]
section
variable {prog:Program} {w:World} {A:Around} {E:Value→Shared→Prop} {s:Shared}
theorem lt_pts {x y:Value} {p q:Pt} {C:Bool→Shared→Prop} (hx:TupAt s.heap x p) (hy:TupAt s.heap y q) (h:C (ltP p q) s):wpAny (model prog w) A (keyLt' (tuples' true) x y) C E s:=by
 obtain ⟨b,o,t,u,n,rfl,g,c,d⟩:=hx
 obtain ⟨b',o',t',u',n',rfl,g',c',d'⟩:=hy
 refine kat_lt g d g' d' ?_
 refine kat_cons (SeqAt.EqAt.int_int p.1 t q.1 t' _ _ _ _ ?_)
 by_cases e:p.1 = q.1
 ·rw [e,beq_self_eq_true]
  refine kat_yes (kat_cons (SeqAt.EqAt.int_int p.2 u q.2 u' _ _ _ _ ?_))
  rw [ltP_eq e] at h
  by_cases e2:p.2 = q.2
  ·rw [e2,beq_self_eq_true]
   refine kat_yes (kat_nil ?_)
   rw [e2,decide_eq_false (Int.lt_irrefl _)] at h
   exact h
  ·rw [beq_eq_false_iff_ne.mpr e2]
   refine kat_no (kat_one _ _ (lt_int ?_))
   exact h
 ·rw [beq_eq_false_iff_ne.mpr e]
  refine kat_no (oneLt_int ?_)
  rw [ltP_ne e] at h
  exact h
theorem sort_core {vs:List Value} {ps:List Pt} (hp:Paired (TupAt s.heap) vs ps) (h2:0 < vs.length) {G:Array Nat→Shared→Prop} (hG:∀ p:Array Nat,Srt.Ok vs.length p→Srt.Up (fun i=>ps.getD i (0,0)) p vs.length→G p s) :
  wpAny (model prog w) A (keyKind' vs.toArray) (fun κ s'=>(kas_sort vs.length).kasWp (kas_ask prog w A κ vs) G s') (fun _ _=>False) s:=by
 have tups:∀ {vs:List Value} {ps:List Pt},Paired (TupAt s.heap) vs ps→∃ fs,KatTups s.heap vs fs∧fs.length = vs.length∧∀ v ∈ fs,∃ i t,v = Value.int i t:=by
  intro vs ps h
  induction h with
  | nil=>exact ⟨[],KatTups.nil,rfl,fun v hv=>by simp at hv⟩
  | cons r _ ih =>
   obtain ⟨fs,a1,a2,a3⟩:=ih
   obtain ⟨b,o,t,u,n,rfl,g,c,d⟩:=r
   refine ⟨.int _ t :: fs,KatTups.cons g c d (by rfl) a1,by simp [a2],fun v hv=>?_⟩
   rcases List.mem_cons.mp hv with z | z
   ·exact ⟨_,_,z⟩
   ·exact a3 v z
 obtain ⟨fs,t1,t2,t3⟩:=tups hp
 refine kat_kind (T:=.type "int") t1 (by omega) (fun v hv=>?_) rfl ?_
 ·obtain ⟨i,t,rfl⟩:=t3 v hv
  exact .now
 ·refine Srt.sort_ok h2 (fun i j C hi hj hC=>?_) hG
  have at':∀ i,i < vs.length→TupAt s.heap (vs.getD i Value.none) (ps.getD i (0,0)):=fun i hi=>by
   obtain ⟨p,e1,e2⟩:=Pair.get (i:=i) (x:=vs[i]) hp (by simp [hi])
   rw [List.getD_eq_getElem?_getD,List.getD_eq_getElem?_getD,e1]
   simp [hi]
   exact e2
  exact lt_pts (at' i hi) (at' j hj) hC
theorem sorted_out {h:Heap} {vs:List Value} {ps:List Pt} (hp:Paired (TupAt h) vs ps) {p:Array Nat} (o:Srt.Ok vs.length p) (u:Srt.Up (fun i=>ps.getD i (0,0)) p vs.length) :
  Paired (TupAt h) (p.toList.map fun i=>vs.getD i Value.none) (sortP ps)∧(p.toList.map fun i=>vs.getD i Value.none).Perm vs:=by
 have hl:=hp.length
 have pm:p.toList.Perm (List.range vs.length):=by
  have:=o.perm
  exact (Array.perm_iff_toList_perm.mp this).trans (by simp)
 have get_range:∀ {α:Type} (d:α) (l:List α),(List.range l.length).map (fun i=>l.getD i d) = l:=fun {α} d l=>by
  apply List.ext_getElem?
  intro i
  rw [List.getElem?_map]
  by_cases h:i < l.length
  ·simp [h]
  ·simp [h]
 have e1:(p.toList.map fun i=>ps.getD i (0,0)) = sortP ps:=by
  refine sortP_unique ?_ ?_
  ·have:=pm.map (fun i=>ps.getD i ((0,0):Pt))
   rw [hl,get_range] at this
   exact this
  ·rw [List.pairwise_map]
   rw [List.pairwise_iff_getElem]
   intro i j hi hj hij
   have szp:p.size = vs.length:=o.size
   have q:=u i j (by omega) (by rw [← szp]; simpa using hj)
   unfold Srt.kat at q
   have hi':i < p.size:=by simpa using hi
   have hj':j < p.size:=by simpa using hj
   rw [show p.getD i 0 = p[i] by simp [Array.getD,hi'],show p.getD j 0 = p[j] by simp [Array.getD,hj']] at q
   simpa using q
 constructor
 ·rw [← e1]
  have go:∀ l:List Nat,(∀ i ∈ l,i < vs.length)→Paired (TupAt h) (l.map fun i=>vs.getD i Value.none) (l.map fun i=>ps.getD i (0,0)):=by
   intro l
   induction l with
   | nil=>intro _; exact .nil
   | cons i l ih =>
    intro hl'
    refine .cons ?_ (ih fun j hj=>hl' j (List.mem_cons_of_mem _ hj))
    have hi:=hl' i List.mem_cons_self
    obtain ⟨q,e1,e2⟩:=Pair.get (i:=i) (x:=vs[i]) hp (by simp [hi])
    show TupAt h (vs.getD i Value.none) (ps.getD i (0,0))
    rw [List.getD_eq_getElem?_getD,List.getD_eq_getElem?_getD,e1]
    simp [hi]
    exact e2
  exact go _ fun i hi=>by have:=pm.mem_iff.mp hi; simpa using this
 ·have:=pm.map (fun i=>vs.getD i Value.none)
  rw [get_range] at this
  exact this
theorem sort_small {a:Addr} {vs:List Value} {n:Nat} {P:PySem.Fin→Shared→Prop} (ho:s.heap.get? a = some (seqObj "list" vs.toArray n)) (h2:vs.length < 2)
  (h:∀ h' c,(∀ b o,b ≠ a→s.heap.get? b = some o→h'.get? b = some o)→h'.get? a = some (seqObj "list" vs.toArray c)→P (.done (.ret .none)) { s with heap:=h' }):wpAny (model prog w) A (Builtin.«list.sort» ⟨[.ref a],[]⟩) P E s:=by
 rw [list_sort_plain]
 have ha:a < s.heap.objs.size:=Heap.lt_size ho
 refine wpAny_bind (listItems_at ho rfl (wpAny_bind (listUpdate_at ho rfl ?_ (by rw [List.size_toArray,sizeLine_eq]; omega) (Nat.zero_le _))))
 obtain ⟨e1,ho1⟩:∃ e1,(s.heap.update a (Obj.mapSeq fun _=>#[])).get? a = some (seqObj "list" #[] e1):=⟨_,get?_update_seq ho (fun _=>(#[]:Array Value))⟩
 refine wpAny_bind (seqEpoch_at ho1 rfl (wpAny_bind (wpAny_newTuple (wpAny_bind (wpAny_newList (wpAny_holding ?_) (Nat.zero_le _))) (by show vs.length≤_; rw [sizeLine_eq]; omega))))
 have ho6:(((s.heap.update a (Obj.mapSeq fun _=>(#[]:Array Value))).push (seqObj "tuple" vs.toArray 0)).push (seqObj "list" #[] 0)).get? a = some (seqObj "list" #[] e1):=Heap.get?_push_of_some _ (Heap.get?_push_of_some _ ho1)
 show wpAny (model prog w) A _ P E ({ s with heap:=((s.heap.update a (Obj.mapSeq fun _=>(#[]:Array Value))).push (seqObj "tuple" vs.toArray 0)).push (seqObj "list" #[] 0) }:Shared)
 dsimp only
 have hs2:vs.toArray.size < 2:=by rw [List.size_toArray]; exact h2
 rw [if_pos hs2,if_pos hs2]
 refine wpAny_bind (wpAny_pure ?_)
 rw [StateT.run_pure]
 refine wpAny_bind (wpAny_pure ?_)
 dsimp only
 have hz:(Array.map (fun x:Value×Value=>x.snd) (vs.toArray.zip vs.toArray)) = vs.toArray:=by
  apply Array.toList_inj.mp
  simp [List.map_snd_zip]
 refine wpAny_bind (seqEpoch_at ho6 rfl ?_)
 have ez:(fun _:Array Value=>Array.map (fun x:Value×Value=>x.snd) (arrOf (SortSt.mk' general' (vs.toArray.zip vs.toArray) #[] 7 none))) = fun _=>vs.toArray:=funext fun _=>hz
 rw [ez]
 refine wpAny_bind (listUpdate_at ho6 rfl ?_ (Nat.zero_le _) (by rw [List.size_toArray,sizeLine_eq]; omega))
 rw [if_neg (by simp)]
 refine wpAny_pure (h _ _ (fun b o hb e=>?_) (get?_update_seq ho6 fun _=>vs.toArray))
 rw [Heap.get?_update_other _ _ (Ne.symm hb)]
 exact Heap.get?_push_of_some _ (Heap.get?_push_of_some _ ((Heap.get?_update_other _ _ (Ne.symm hb)).trans e))
end
section
variable {X:Cx} {pins:List (Addr×Obj)} {σ:St} {H:Hp} {s:Shared}
theorem Inv.tupAt (I:Inv X pins σ H s) {v:V} {u:Value} {p:Pt} (r:RelV v u) (h:IsPt H v p):TupAt s.heap u p:=by
 obtain ⟨a,rfl,h⟩:=h
 obtain rfl:u = Value.ref a:=r
 obtain ⟨_,its,rv,ob,e,c,n,d⟩:=I.hok a _ h
 cases rv with
 | cons r1 rv =>
  cases rv with
  | cons r2 rv =>
   cases rv
   obtain ⟨t,rfl⟩:=r1
   obtain ⟨t',rfl⟩:=r2
   exact ⟨a,ob,t,t',n,rfl,e,c,d⟩
theorem Inv.tupsAt (I:Inv X pins σ H s):∀ {vs:List V} {us:List Value} {ps:List Pt},Vals vs us→ArePts H vs ps→Paired (TupAt s.heap) us ps
 | _,_,_,.nil,.nil=>.nil
 | _,_,_,.cons r t,.cons h k=>.cons (I.tupAt r h) (I.tupsAt t k)
theorem vals_of_sub {vs:List V} {us zs:List Value} {ps qs:List Pt} {h:Heap} (rv:Vals vs us) (hp:ArePts H vs ps) (ht:Paired (TupAt h) us ps) (hz:Paired (TupAt h) zs qs) (hs:∀ z ∈ zs,z ∈ us) :
  ∃ ws,Vals ws zs∧ArePts H ws qs∧∀ w ∈ ws,w ∈ vs:=by
 induction hz with
 | nil=>exact ⟨[],.nil,.nil,fun w hw=>by simp at hw⟩
 | @cons z q zs qs hzq _ ih =>
  obtain ⟨ws,a1,a2,a3⟩:=ih fun z hz=>hs z (List.mem_cons_of_mem _ hz)
  obtain ⟨i,hi⟩:=List.mem_iff_getElem?.mp (hs z List.mem_cons_self)
  obtain ⟨p,hp1,hp2⟩:=Pair.get ht hi
  obtain ⟨v,hv1,hv2⟩:=Pair.get' rv hi
  obtain ⟨p',hq1,hq2⟩:=Pair.get hp hv1
  rw [hp1] at hq1; cases hq1
  have:p = q:=by
   obtain ⟨b,o,t,u,n,e,g,c,d⟩:=hp2
   obtain ⟨b',o',t',u',n',e',g',c',d'⟩:=hzq
   rw [e] at e'; cases e'
   rw [g] at g'; cases g'
   rw [d] at d'
   injection d' with d1 _
   have d2:=congrArg Array.toList d1
   simp at d2
   exact Prod.ext d2.1.1 d2.2.1
  subst this
  refine ⟨v :: ws,.cons hv2 a1,.cons hq2 a2,fun w hw=>?_⟩
  rcases List.mem_cons.mp hw with z | z
  ·rw [z]; exact List.mem_of_getElem? hv1
  ·exact a3 w z
theorem sortP_small {ps:List Pt} (h:ps.length < 2):sortP ps = ps:=by
 refine (sortP_unique (List.Perm.refl _) ?_).symm
 match ps,h with
 | [],_=>exact List.Pairwise.nil
 | [p],_=>exact List.pairwise_singleton _ _
 | _ :: _ :: _,h=>simp at h; omega
theorem call_sortedP (hu:X.A.units+16 < cLine):CallR X (.builtin "sorted") (fun xs H Q=>∃ p ys ps,xs = [.ref p]∧SqL X.K H p ys∧ArePts H ys ps∧ps.length < 64∧∀ l zs,H l = none→ArePts H zs (sortP ps)→(∀ z ∈ zs,z ∈ ys)→Q (.ref l) (upd H l (.lst zs))):=by
 intro pins s σ H xs us Q I rv h
 obtain ⟨p,ys,ps,rfl,hq,hp,hlen,k⟩:=h
 cases rv with
 | cons r1 rv =>
  cases rv
  obtain rfl:=r1
  obtain ⟨its,r,pl,hz⟩:=I.list hq
  have tp:=I.tupsAt r hp
  have hl:=r.length
  have hl2:=hp.length
  obtain ⟨m,F⟩:=I.fr
  by_cases h2:2≤its.length
  ·refine kat_sorted F (news_all (h:=s.heap)) pl.isList h2 (by omega) fun D e1 h' F' N' hlt=>?_
   have kp:=news_keeps (more:=[(D,seqObj "list" #[] e1)]) I F' N'
   have nD:s.heap.get? D = none:=by
    cases q:s.heap.get? D with
    | none=>rfl
    | some o =>
     have z:=N' (D,seqObj "list" #[] e1) List.mem_cons_self
     exact absurd (hlt (D,o) (mem_allNews z.2.1 z.2.2 q)) (Nat.lt_irrefl _)
   have tp':Paired (TupAt h') its ps:=Paired.mapP tp fun v q x=>x.at fun b o e g=>kp b o (fun z=>by
    obtain ⟨b',o',_,_,_,e',g',_,d'⟩:=x
    rw [e] at e'; cases e'
    obtain ⟨mL,⟨oL,esL,epL,hoL,hdL,_⟩,_⟩:=I.loc
    rw [z,hoL] at g'; cases g'
    rw [hdL] at d'; cases d') g
   refine sort_core (s:={ s with heap:=h' }) tp' (by omega) fun pm ok up=>?_
   obtain ⟨so,sp⟩:=sorted_out tp ok up
   refine KasFin.intro F' N' (UpdF.head fun q hq=>Nat.ne_of_lt (hlt q hq)) fun h2' c F2 N2=>?_
   obtain ⟨ws,w1,w2,w3⟩:=vals_of_sub r hp tp so fun z hz=>sp.mem_iff.mp hz
   have wl:ws.length≤sizeLine:=by
    have e1:=w1.length
    have e2:=sp.length_eq
    rw [sizeLine_eq]; omega
   obtain ⟨n0,I2⟩:=I.newsNew (o:=.lst ws) (t':=s.toks) F.ns F2 N2 nD ⟨wl,_,c,w1,(N2 (D,_) List.mem_cons_self).1⟩
   exact ⟨.ref D,_,I2,rfl,k D ws n0 w2 w3⟩
  ·refine Calls.call_function_entry kind_sorted plain_sorted entry_sorted (args_sorted1 _) ?_
   unfold Builtin.«sorted»
   refine wpAny_bind (m:=checkCount "sorted" 1 1 _) (wpAny_pure (wpAny_bind (collect_list pl.isList (wpAny_bind (wpAny_newList ?_ (by rw [sizeLine_eq]; omega))) (by rw [sizeLine_eq]; omega))))
   have hsz:((s.heap.push (seqObj "list" #[] 0)).update s.heap.objs.size (Obj.mapSeq (·++its.toArray))).objs.size = s.heap.objs.size+1:=by rw [Heap.size_update,size_push']
   have hoL:(((s.heap.push (seqObj "list" #[] 0)).update s.heap.objs.size (Obj.mapSeq (·++its.toArray))).push (seqObj "list" its.toArray 0)).get? (s.heap.objs.size+1) = some (seqObj "list" its.toArray 0):=by rw [← hsz]; exact Heap.get?_push_size _ rfl
   show wpAny _ _ _ _ _ ({ s with heap:=((s.heap.push (seqObj "list" #[] 0)).update s.heap.objs.size (Obj.mapSeq (·++its.toArray))).push (seqObj "list" its.toArray 0) }:Shared)
   rw [hsz]
   refine wpAny_bind (wpAny_holding (wpAny_call_entry slot_list_sort ⟨_,hoL,rfl⟩ entry_list_sort (sort_small hoL (by omega) fun h' c kp g=>⟨_,rfl,wpAny_pure ⟨_,rfl,?_⟩⟩) (args_list_sort _)))
   have hps:sortP ps = ps:=sortP_small (by omega)
   have n0:H (s.heap.objs.size+1) = none:=I.hok.fresh (Nat.le_succ _)
   refine ⟨.ref (s.heap.objs.size+1),_,I.laid (t':=s.toks) (o:=.lst ys) (fun b u e=>kp b u (Nat.ne_of_lt (Nat.lt_succ_of_lt (Heap.lt_size e))) ?_) (Nat.le_succ _) ⟨by rw [sizeLine_eq]; omega,its,c,r,g⟩,rfl,k _ ys n0 (by rw [hps]; exact hp) fun z hz=>hz⟩
   have hlt:=Heap.lt_size e
   rw [Heap.get?_push_ne _ _ _ (by rw [hsz]; exact Nat.ne_of_lt (Nat.lt_succ_of_lt hlt)),Heap.get?_update_ne _ _ _ _ (Nat.ne_of_lt hlt),Heap.get?_push_ne _ _ _ (Nat.ne_of_lt hlt)]
   exact e
end
end L2
set_option maxRecDepth 100000
namespace L2
open PySem PySem.Spec PyProof.Rows Geo PySem.W
theorem TupAt.uniq {h:Heap} {v:Value} {p q:Pt} (a:TupAt h v p) (b:TupAt h v q):p = q:=by
 obtain ⟨b1,o,t,u,n,e,g,c,d⟩:=a
 obtain ⟨b2,o',t',u',n',e',g',c',d'⟩:=b
 rw [e] at e'; cases e'
 rw [g] at g'; cases g'
 rw [d] at d'
 injection d' with d1 _
 have d2:=congrArg Array.toList d1
 simp at d2
 exact Prod.ext d2.1.1 d2.2.1
open Classical in
noncomputable def ptVal (h:Heap) (v:Value):Pt:=if x:∃ p,TupAt h v p then x.choose else (0,0)
theorem ptVal_eq {h:Heap} {v:Value} {p:Pt} (a:TupAt h v p):ptVal h v = p:=by
 unfold ptVal
 have x:∃ p,TupAt h v p:=⟨p,a⟩
 rw [dif_pos x]
 exact x.choose_spec.uniq a
theorem ptVal_map {h:Heap} {vs:List Value} {ps:List Pt} (hp:Paired (TupAt h) vs ps):vs.map (ptVal h) = ps:=by
 induction hp with
 | nil=>rfl
 | cons r _ ih=>rw [List.map_cons,ih,ptVal_eq r]
theorem ptVal_paired {h:Heap}:∀ {l:List Value},(∀ v ∈ l,∃ p,TupAt h v p)→Paired (TupAt h) l (l.map (ptVal h))
 | [],_=>.nil
 | v :: l,k=>by
  obtain ⟨p,hp⟩:=k v List.mem_cons_self
  refine .cons ?_ (ptVal_paired fun w hw=>k w (List.mem_cons_of_mem _ hw))
  rw [ptVal_eq hp]; exact hp
theorem paired_all {h:Heap} {vs:List Value} {ps:List Pt} (hp:Paired (TupAt h) vs ps):∀ v ∈ vs,∃ p,TupAt h v p:=fun v hv=>by
 obtain ⟨i,hi⟩:=List.mem_iff_getElem?.mp hv
 obtain ⟨p,_,e⟩:=Pair.get hp hi
 exact ⟨p,e⟩
section
variable {prog:Program} {w:World} {A:Around} {E:Value→Shared→Prop} {s:Shared}
theorem cp_tups:SrtB.Cp (model prog w) A E s (tuples' true) (fun x=>ptVal s.heap x.1) (fun x=>∃ p,TupAt s.heap x.1 p) where
 lt {st x y Q} hk hx hy h:=by
  obtain ⟨p,hp⟩:=hx
  obtain ⟨q,hq⟩:=hy
  rw [ptVal_eq hp,ptVal_eq hq] at h
  rw [lt'_eq]
  refine wpS_bind (wpS_get ?_)
  rw [hk]
  exact wpS_bind (wpS_lift (wpAny_attempt (lt_pts hp hq ⟨rfl,wpS_pure h⟩)))
theorem sorted_many {h:Heap} {vs:List Value} {ps:List Pt} (hp:Paired (TupAt h) vs ps) {arr:Array Keyed} (pm:arr.Perm (vs.toArray.zip vs.toArray)) (up:SrtB.Up (fun x=>ptVal h x.1) arr 0 vs.length) :
  Paired (TupAt h) (arr.toList.map (·.2)) (sortP ps)∧(arr.toList.map (·.2)).Perm vs:=by
 have pm':arr.toList.Perm (vs.zip vs):=by
  have:=Array.perm_iff_toList_perm.mp pm
  simpa using this
 have same:∀ x ∈ arr.toList,x.1 = x.2:=fun x hx=>by
  obtain ⟨i,hi⟩:=List.mem_iff_getElem?.mp (pm'.mem_iff.mp hx)
  rw [List.getElem?_zip_eq_some] at hi
  have:=hi.1.symm.trans hi.2
  exact Option.some.inj this
 have p2:(arr.toList.map (·.2)).Perm vs:=by
  have:=pm'.map (·.2)
  rwa [List.map_snd_zip (Nat.le_refl _)] at this
 have sz:arr.toList.length = vs.length:=by rw [← List.length_map (as:=arr.toList) (·.2)]; exact p2.length_eq
 refine ⟨?_,p2⟩
 have e1:(arr.toList.map (·.2)).map (ptVal h) = sortP ps:=by
  refine sortP_unique ?_ ?_
  ·rw [← ptVal_map hp]; exact p2.map _
  ·rw [List.map_map,List.pairwise_map,List.pairwise_iff_getElem]
   intro i j hi hj hij
   have hi':i < arr.size:=by simpa using hi
   have hj':j < arr.size:=by simpa using hj
   have q:=up i j (Nat.zero_le _) (Nat.le_of_lt hij) (by omega)
   rw [SrtB.ky_get hi',SrtB.ky_get hj'] at q
   have s1:=same arr[i] (by simp)
   have s2:=same arr[j] (by simp)
   rw [s1,s2] at q
   simpa using q
 rw [← e1]
 exact ptVal_paired fun v hv=>paired_all hp v (p2.mem_iff.mp hv)
theorem tups_of {h:Heap} {vs:List Value} {ps:List Pt} (hp:Paired (TupAt h) vs ps):∃ fs,KatTups h vs fs∧fs.length = vs.length∧∀ v ∈ fs,∃ i t,v = Value.int i t:=by
 induction hp with
 | nil=>exact ⟨[],KatTups.nil,rfl,fun v hv=>by simp at hv⟩
 | cons r _ ih =>
  obtain ⟨fs,a1,a2,a3⟩:=ih
  obtain ⟨b,o,t,u,n,rfl,g,c,d⟩:=r
  refine ⟨.int _ t :: fs,KatTups.cons g c d (by rfl) a1,by simp [a2],fun v hv=>?_⟩
  rcases List.mem_cons.mp hv with z | z
  ·exact ⟨_,_,z⟩
  ·exact a3 v z
theorem sort_many {a:Addr} {vs:List Value} {ps:List Pt} {n:Nat} {P:PySem.Fin→Shared→Prop} (ho:s.heap.get? a = some (seqObj "list" vs.toArray n)) (h2:2≤vs.length) (hz:vs.length≤1000) (hp:Paired (TupAt s.heap) vs ps)
  (h:∀ h' c out,(∀ b o,b ≠ a→s.heap.get? b = some o→h'.get? b = some o)→Paired (TupAt s.heap) out (sortP ps)→out.Perm vs→h'.get? a = some (seqObj "list" out.toArray c)→P (.done (.ret .none)) { s with heap:=h' }):wpAny (model prog w) A (Builtin.«list.sort» ⟨[.ref a],[]⟩) P E s:=by
 rw [list_sort_plain]
 refine wpAny_bind (listItems_at ho rfl (wpAny_bind (listUpdate_at ho rfl ?_ (by rw [List.size_toArray,sizeLine_eq]; omega) (Nat.zero_le _))))
 obtain ⟨e1,ho1⟩:∃ e1,(s.heap.update a (Obj.mapSeq fun _=>#[])).get? a = some (seqObj "list" #[] e1):=⟨_,get?_update_seq ho (fun _=>(#[]:Array Value))⟩
 refine wpAny_bind (seqEpoch_at ho1 rfl (wpAny_bind (wpAny_newTuple (wpAny_bind (wpAny_newList (wpAny_holding ?_) (Nat.zero_le _))) (by show vs.length≤_; rw [sizeLine_eq]; omega))))
 have ho6:(((s.heap.update a (Obj.mapSeq fun _=>(#[]:Array Value))).push (seqObj "tuple" vs.toArray 0)).push (seqObj "list" #[] 0)).get? a = some (seqObj "list" #[] e1):=Heap.get?_push_of_some _ (Heap.get?_push_of_some _ ho1)
 have kp:∀ b o,b ≠ a→s.heap.get? b = some o→(((s.heap.update a (Obj.mapSeq fun _=>(#[]:Array Value))).push (seqObj "tuple" vs.toArray 0)).push (seqObj "list" #[] 0)).get? b = some o:=fun b o hb e =>
  Heap.get?_push_of_some _ (Heap.get?_push_of_some _ ((Heap.get?_update_other _ _ (Ne.symm hb)).trans e))
 show wpAny (model prog w) A _ P E ({ s with heap:=((s.heap.update a (Obj.mapSeq fun _=>(#[]:Array Value))).push (seqObj "tuple" vs.toArray 0)).push (seqObj "list" #[] 0) }:Shared)
 generalize ((s.heap.update a (Obj.mapSeq fun _=>(#[]:Array Value))).push (seqObj "tuple" vs.toArray 0)).push (seqObj "list" #[] 0) = h6 at ho6 kp
 have na:∀ {v:Value} {p:Pt},TupAt s.heap v p→∀ b,v = .ref b→b ≠ a:=fun {v p} x b e q=>by
  obtain ⟨b',o',_,_,_,e',g',c',_⟩:=x
  rw [e] at e'; cases e'
  rw [q,ho] at g'
  have e3:=congrArg Obj.cls (Option.some.inj g')
  rw [c'] at e3
  exact absurd e3 (by show Value.type "list" ≠ Value.type "tuple"; decide)
 have tp6:Paired (TupAt h6) vs ps:=Paired.mapP hp fun v q x=>x.at fun b o e g=>kp b o (na x b e) g
 dsimp only
 have hs2:¬ vs.toArray.size < 2:=by rw [List.size_toArray]; omega
 rw [if_neg hs2,if_neg hs2]
 obtain ⟨fs,t1,t2,t3⟩:=tups_of tp6
 refine wpAny_bind (kat_kind (s:={ s with heap:=h6 }) (T:=.type "int") t1 (by omega) (fun v hv=>?_) rfl ?_)
 ·obtain ⟨i,t,rfl⟩:=t3 v hv
  exact .now
 refine wpAny_bind (wpAny_mono (SrtB.runs_ok (s:={ s with heap:=h6 }) (n:=vs.length) (st:=SortSt.mk' (tuples' true) (vs.toArray.zip vs.toArray) #[] 7 none) cp_tups ⟨rfl,rfl,(by show (vs.toArray.zip vs.toArray).size = _; simp),fun x hx=>?_⟩ rfl h2 (Q:=fun _ st'=>SrtB.Ok (tuples' true) (fun x=>∃ p,TupAt h6 x.1 p) vs.length st'∧(arrOf st').Perm (vs.toArray.zip vs.toArray)∧SrtB.Up (fun x=>ptVal h6 x.1) (arrOf st') 0 vs.length) (fun st' o p u=>⟨o,p,u⟩)) ?_ fun _ _ e=>e)
 ·have hx':x ∈ vs.zip vs:=by
   have:=Array.mem_toList_iff.mpr hx
   simpa using this
  exact paired_all tp6 _ (List.of_mem_zip hx').1
 rintro ⟨⟨⟩,st'⟩ s' ⟨rfl,o,pm,up⟩
 dsimp only
 obtain ⟨so,sp⟩:=sorted_many tp6 pm up
 generalize ho':(arrOf st').toList.map (·.2) = out at so sp
 have ez:(fun _:Array Value=>Array.map (fun x:Value×Value=>x.snd) (arrOf st')) = fun _=>out.toArray:=funext fun _=>by
  apply Array.toList_inj.mp
  rw [Array.toList_map]; exact ho'
 have ol:out.length = vs.length:=sp.length_eq
 refine wpAny_bind (seqEpoch_at ho6 rfl ?_)
 rw [ez]
 refine wpAny_bind (listUpdate_at ho6 rfl ?_ (Nat.zero_le _) (by rw [List.size_toArray,sizeLine_eq]; omega))
 rw [o.failed]
 simp only [bne_self_eq_false,Bool.false_eq_true,if_false]
 have so':Paired (TupAt s.heap) out (sortP ps):=by
  have e2:out.map (ptVal s.heap) = sortP ps:=by
   rw [← ptVal_map so]
   refine List.map_congr_left fun v hv=>?_
   obtain ⟨p,hp1⟩:=paired_all hp v (sp.mem_iff.mp hv)
   rw [ptVal_eq hp1,ptVal_eq (hp1.at fun b o e g=>kp b o (na hp1 b e) g)]
  rw [← e2]
  exact ptVal_paired fun v hv=>paired_all hp v (sp.mem_iff.mp hv)
 refine wpAny_pure (h _ _ out (fun b o hb e=>?_) so' sp (get?_update_seq ho6 fun _=>out.toArray))
 rw [Heap.get?_update_other _ _ (Ne.symm hb)]
 exact kp b o hb e
end
end L2
set_option maxRecDepth 100000
namespace L2
open PySem PySem.Spec PyProof.Rows Geo PySem.W STab
section
variable {prog:Program} {w:World} {h:Heap}
theorem TupAt.key {v:Value} {p:Pt} (x:TupAt h v p):KeyOf prog w h v [p.1,p.2]:=by
 obtain ⟨b,o,t,u,n,e,g,c,d⟩:=x
 exact ⟨b,e,o,_,n,g,c,d,.cons (by simp [intKind,Value.isInt]) (.cons (by simp [intKind,Value.isInt]) .nil)⟩
theorem TupAt.inj {v:Value} {p q:Pt} (x:TupAt h v p) (y:TupAt h v q):p = q:=by
 obtain ⟨b,o,t,u,n,e,g,c,d⟩:=x
 obtain ⟨b',o',t',u',n',e',g',c',d'⟩:=y
 rw [e] at e'; cases e'
 rw [g] at g'; cases g'
 rw [d] at d'
 injection d' with d1 _
 have d2:=congrArg Array.toList d1
 simp at d2
 exact Prod.ext d2.1.1 d2.2.1
theorem pts_of_set {items:List Value} {ps:List Pt} (hp:Paired (TupAt h) items ps):∀ {l:List (En Value)},(∀ e ∈ l,e.2 ∈ items)→l.Pairwise (fun e f=>∀ ks,KeyOf prog w h e.2 ks→¬ KeyOf prog w h f.2 ks) →
  ∃ qs,Paired (TupAt h) (l.map (·.2)) qs∧qs.Nodup∧∀ x,x ∈ qs↔∃ e ∈ l,TupAt h e.2 x
 | [],_,_=>⟨[],.nil,List.nodup_nil,fun x=>by simp⟩
 | e :: l,hin,hpw=>by
  obtain ⟨h1,h2⟩:=List.pairwise_cons.mp hpw
  obtain ⟨qs,a1,a2,a3⟩:=pts_of_set hp (fun f hf=>hin f (List.mem_cons_of_mem _ hf)) h2
  obtain ⟨i,hi⟩:=List.mem_iff_getElem?.mp (hin e List.mem_cons_self)
  obtain ⟨q,_,hq⟩:=Pair.get hp hi
  refine ⟨q :: qs,.cons hq a1,List.nodup_cons.mpr ⟨fun hm=>?_,a2⟩,fun x=>?_⟩
  ·obtain ⟨f,hf,hf2⟩:=(a3 q).mp hm
   exact h1 f hf [q.1,q.2] hq.key hf2.key
  ·rw [List.mem_cons,a3 x]
   constructor
   ·rintro (rfl | ⟨f,hf,hx⟩)
    ·exact ⟨e,List.mem_cons_self,hq⟩
    ·exact ⟨f,List.mem_cons_of_mem _ hf,hx⟩
   ·rintro ⟨f,hf,hx⟩
    rcases List.mem_cons.mp hf with z | z
    ·rw [z] at hx
     exact .inl (hx.inj hq)
    ·exact .inr ⟨f,z,hx⟩
end
def tSortSet (K:PySem.W.Frag) (te:TE):TE:=fun σ H Q=>te σ H fun x H1=>∃ p ys ps,x = .ref p∧SqL K H1 p ys∧ArePts H1 ys ps∧ps.length≤144∧∀ l zs,H1 l = none→ArePts H1 zs (uniqP ps)→(∀ z ∈ zs,z ∈ ys)→Q (.ref l) (upd H1 l (.lst zs))
theorem pe_sortset {X:Cx} {e:Expr} {te:TE} {p1 p2 pos1 pos2:Pos} (hu:X.A.units+16 < cLine) (hh:X.A.handled = none) (hg1:Gl X "sorted") (hm1:X.mg "sorted" = none) (hg2:Gl X "set") (hm2:X.mg "set" = none) (he:PE X e te)
  (hs:starEach [e] X.env = [(false,eval e X.env)]:=by rfl) :
  PE X (.Call (.Name "sorted" p1) [.Call (.Name "set" p2) [e] [] pos2] [] pos1) (tSortSet X.K te):=by
 intro pins s σ H Q I h
 refine wpAny_Call_Name_kw (ld_blt I hg1 hm1 boot_sorted ?_)
 refine callWith_builtin1 ?_ rfl rfl
 show wpAny _ _ (spliced ((false,eval (.Call (.Name "set" p2) [e] [] pos2) X.env) :: [])) _ _ _
 refine Calls.spliced_cons ?_
 refine wpAny_Call_Name_kw (ld_blt I hg2 hm2 boot_set ?_)
 refine callWith_type1 ?_ hs rfl
 rw [hs]
 show wpAny _ _ (spliced ((false,eval e X.env) :: [])) _ _ _
 refine Calls.spliced_cons (thn (he pins s σ H _ I h) fun u s1 ⟨x,H1,I1,r1,p,ys,ps,ex,hq,hp,hlen,k⟩=>?_)
 subst ex
 obtain rfl:u = Value.ref p:=r1
 refine Calls.spliced_nil ?_
 obtain ⟨its,r,pl,hz⟩:=I1.list hq
 have tp:=I1.tupsAt r hp
 have hl:=r.length
 have hl2:=hp.length
 refine call_set_tups (kss:=ps.map fun q=>[q.1,q.2]) hh (by omega) pl.isList (fun i v hv=>?_) (by simp; omega) (by simp; omega) fun h2 tk2 es ep t M T mb kp2=>?_
 ·obtain ⟨q,e1,e2⟩:=Pair.get (i:=i) (x:=v) tp (by simpa using hv)
  obtain ⟨b,e3,e4⟩:=e2.key (prog:=X.prog) (w:=X.w)
  exact ⟨[q.1,q.2],b,by rw [List.getElem?_map,e1]; rfl,e3,e4⟩
 refine Calls.spliced_nil ?_
 have I2:Inv X pins σ H1 { s1 with heap:=h2,toks:=tk2 }:=I1.kept fun b u e=>kp2 b u (Heap.lt_size e) e
 have tp2:Paired (TupAt h2) its ps:=Paired.mapP tp fun v q x=>x.at fun b o _ g=>kp2 b o (Heap.lt_size g) g
 obtain ⟨m,F⟩:=I2.fr
 have szes:es.size≤144:=by
  have:=mb.size
  rw [List.length_map,Array.length_toList] at this
  omega
 have hin:∀ e ∈ (ordS X.w s1.heap.objs.size ep es).toList,e.2 ∈ its:=fun e he=>by
  have:=(mb.into e ((ordS_perm _ _ _ _).mem_iff.mp he)).1
  simpa using this
 obtain ⟨qs,q1,q2,q3⟩:=pts_of_set (prog:=X.prog) (w:=X.w) tp hin (((ordS_perm X.w s1.heap.objs.size ep es).pairwise_iff (fun {x y} hxy a hy hx=>hxy a hx hy)).mpr mb.once)
 have hmem:∀ x,x ∈ qs↔x ∈ ps:=fun x=>by
  rw [q3 x]
  constructor
  ·rintro ⟨e,he,hx⟩
   obtain ⟨i,hi⟩:=List.mem_iff_getElem?.mp (hin e he)
   obtain ⟨y,hy1,hy2⟩:=Pair.get tp hi
   rw [hx.inj hy2]; exact List.mem_of_getElem? hy1
  ·intro hx
   obtain ⟨e,he,hk⟩:=mb.onto [x.1,x.2] (List.mem_map.mpr ⟨x,hx,rfl⟩)
   have he':=(ordS_perm X.w s1.heap.objs.size ep es).mem_iff.mpr he
   refine ⟨e,he',?_⟩
   obtain ⟨i,hi⟩:=List.mem_iff_getElem?.mp (hin e he')
   obtain ⟨y,hy1,hy2⟩:=Pair.get tp hi
   have e2:=hk.inj hy2.key
   simp at e2
   rw [show x = y from Prod.ext e2.1 e2.2]; exact hy2
 have huq:sortP qs = uniqP ps:=uniqP_unique ((sortP_perm qs).nodup_iff.mpr q2) (fun x=>(sortP_perm qs).mem_iff.trans (hmem x)) (sortP_pw qs)
 have eord:∀ vs:List Value,vs.length = es.size→(∀ (j:Nat) (v:Value),vs[j]? = some v→∃ e,(ordS X.w s1.heap.objs.size ep es)[j]? = some e∧e.2 = v)→vs = (ordS X.w s1.heap.objs.size ep es).toList.map (·.2):=fun vs h1 h2=>by
  apply List.ext_getElem?
  intro j
  rw [List.getElem?_map]
  by_cases hj:j < vs.length
  ·obtain ⟨e,e1,e2⟩:=h2 j vs[j] (by simp [hj])
   have e1':(ordS X.w s1.heap.objs.size ep es).toList[j]? = some e:=by simpa using e1
   rw [e1',List.getElem?_eq_getElem hj,← e2]; rfl
  ·have hlo:(ordS X.w s1.heap.objs.size ep es).toList.length = es.size:=by rw [Array.length_toList,ordS_size]
   rw [List.getElem?_eq_none (by omega),List.getElem?_eq_none (by omega)]; rfl
 refine kdu_sorted (s:={ s1 with heap:=h2,toks:=tk2 }) (src_set s1.heap.objs.size es ep t M) hh F (news_all (h:=h2)) T.zero (by rw [sizeLine_eq]; omega) fun D h3 tk3 vs F3 N3 hlt hvl hvp=>?_
 have evs:=eord vs hvl hvp
 subst evs
 have kp3:=news_keeps (more:=[(D,listOf ((ordS X.w s1.heap.objs.size ep es).toList.map (fun x:En Value=>x.snd)).toArray 0)]) I2 F3 N3
 have nD:h2.get? D = none:=by
  cases q:h2.get? D with
  | none=>rfl
  | some o =>
   have z:=N3 (D,_) List.mem_cons_self
   exact absurd (hlt (D,o) (mem_allNews z.2.1 z.2.2 q)) (Nat.lt_irrefl _)
 have up:∀ {v:Value} {q:Pt},TupAt s1.heap v q→TupAt h3 v q:=fun {v q} x=>(x.at fun b o _ g=>kp2 b o (Heap.lt_size g) g:TupAt h2 v q).at fun b o e g=>kp3 b o (fun z=>by
  obtain ⟨b',o',_,_,_,e',g',_,d'⟩:=(x.at fun b o _ g=>kp2 b o (Heap.lt_size g) g:TupAt h2 v q)
  rw [e] at e'; cases e'
  obtain ⟨mL,⟨oL,esL,epL,hoL,hdL,_⟩,_⟩:=I2.loc
  have hoL':h2.get? X.env.locals = some oL:=hoL
  rw [z,hoL'] at g'; cases g'
  rw [hdL] at d'; cases d') g
 have ho3:=(N3 (D,_) List.mem_cons_self).1
 have vlen:((ordS X.w s1.heap.objs.size ep es).toList.map (·.2)).length≤144:=by rw [List.length_map,Array.length_toList,ordS_size]; exact szes
 have subi:∀ z ∈ (ordS X.w s1.heap.objs.size ep es).toList.map (·.2),z ∈ its:=fun z hz=>by
  obtain ⟨e,he,rfl⟩:=List.mem_map.mp hz
  exact hin e he
 by_cases h2':2≤((ordS X.w s1.heap.objs.size ep es).toList.map (·.2)).length
 ·have tp3:Paired (TupAt h3) ((ordS X.w s1.heap.objs.size ep es).toList.map (·.2)) qs:=Paired.mapP q1 fun v q x=>up x
  have tpi:Paired (TupAt h3) its ps:=Paired.mapP tp fun v q x=>up x
  refine wpAny_call_entry slot_list_sort ⟨_,ho3,rfl⟩ entry_list_sort (sort_many (s:={ s1 with heap:=h3,toks:=tk3 }) ho3 h2' (by omega) tp3 fun h5 c out kp5 so sp g5=>⟨_,rfl,?_⟩) (args_list_sort _)
  rw [huq] at so
  obtain ⟨ws,w1,w2,w3⟩:=vals_of_sub r hp tpi so fun z hz=>subi z (sp.mem_iff.mp hz)
  have wl:ws.length≤sizeLine:=by
   have e1:=w1.length
   have e2:=sp.length_eq
   rw [sizeLine_eq]; omega
  have F5:Fr X.base X.env.locals h5 m:=⟨F3.ns.at' fun o e=>kp5 _ o (Ne.symm (N3 (D,_) List.mem_cons_self).2.1) e,fun b o e=>kp5 b o (fun z=>by
   have:=(N3 (D,_) List.mem_cons_self).2.2
   rw [z] at e
   have e':X.base.get? D = some o:=e
   rw [e'] at this; cases this) (F3.keep b o e),F3.above⟩
  have N5:News X.base X.env.locals h5 ((D,seqObj "list" out.toArray c) :: allNews X.base h2 X.env.locals):=fun q hq=>by
   rcases List.mem_cons.mp hq with z | z
   ·rw [z]; exact ⟨g5,(N3 (D,_) List.mem_cons_self).2⟩
   ·have n3:=N3 q (List.mem_cons_of_mem _ z)
    exact ⟨kp5 _ _ (Nat.ne_of_lt (hlt q z)) n3.1,n3.2⟩
  obtain ⟨n0,I5⟩:=I2.newsNew (o:=.lst ws) (t':=tk3) F.ns F5 N5 nD ⟨wl,_,c,w1,g5⟩
  exact ⟨.ref D,_,I5,rfl,k D ws n0 w2 w3⟩
 ·refine wpAny_call_entry slot_list_sort ⟨_,ho3,rfl⟩ entry_list_sort (sort_small (s:={ s1 with heap:=h3,toks:=tk3 }) ho3 (by omega) fun h5 c kp5 g5=>⟨_,rfl,?_⟩) (args_list_sort _)
  have qlen:qs.length < 2:=by have:=q1.length; omega
  rw [sortP_small qlen] at huq
  subst huq
  obtain ⟨ws,w1,w2,w3⟩:=vals_of_sub r hp tp q1 subi
  have wl:ws.length≤sizeLine:=by
   have e1:=w1.length
   rw [sizeLine_eq]; omega
  have F5:Fr X.base X.env.locals h5 m:=⟨F3.ns.at' fun o e=>kp5 _ o (Ne.symm (N3 (D,_) List.mem_cons_self).2.1) e,fun b o e=>kp5 b o (fun z=>by
   have:=(N3 (D,_) List.mem_cons_self).2.2
   rw [z] at e
   have e':X.base.get? D = some o:=e
   rw [e'] at this; cases this) (F3.keep b o e),F3.above⟩
  have N5:News X.base X.env.locals h5 ((D,seqObj "list" ((ordS X.w s1.heap.objs.size ep es).toList.map (·.2)).toArray c) :: allNews X.base h2 X.env.locals):=fun q hq=>by
   rcases List.mem_cons.mp hq with z | z
   ·rw [z]; exact ⟨g5,(N3 (D,_) List.mem_cons_self).2⟩
   ·have n3:=N3 q (List.mem_cons_of_mem _ z)
    exact ⟨kp5 _ _ (Nat.ne_of_lt (hlt q z)) n3.1,n3.2⟩
  obtain ⟨n0,I5⟩:=I2.newsNew (o:=.lst ws) (t':=tk3) F.ns F5 N5 nD ⟨wl,_,c,w1,g5⟩
  exact ⟨.ref D,_,I5,rfl,k D ws n0 w2 w3⟩
end L2
set_option maxRecDepth 100000
namespace L2
open PySem PySem.Spec PyProof.Rows Geo PySem.W STab
section
variable {A:Around} {s:Shared}
theorem pair_all (p q:Pt):((List.range (min (#[Value.int p.1 0,Value.int p.2 0]:Array Value).size (#[Value.int q.1 0,Value.int q.2 0]:Array Value).size)).all (fun j=>if j = 0 then p.1 == q.1 else p.2 == q.2) && (#[Value.int p.1 0,Value.int p.2 0]:Array Value).size == (#[Value.int q.1 0,Value.int q.2 0]:Array Value).size) = decide (p = q):=by
 have e:(List.range (min (#[Value.int p.1 0,Value.int p.2 0]:Array Value).size (#[Value.int q.1 0,Value.int q.2 0]:Array Value).size)) = [0,1]:=rfl
 rw [e]
 by_cases h:p = q
 ·subst h; simp
 ·rw [decide_eq_false h]
  by_cases h1:p.1 = q.1
  ·have h2:p.2 ≠ q.2:=fun z=>h (Prod.ext h1 z)
   simp [h1,h2]
  ·simp [h1]
theorem rc_pt {u v:Value} {p q:Pt} (hu:A.units < cLine) (x:TupAt s.heap u p) (y:TupAt s.heap v q):SeqAt.RcAt A s u v (decide (p = q)):=by
 obtain ⟨b,o,t,t',n,rfl,g,c,d⟩:=x
 obtain ⟨b',o',t2,t2',n',rfl,g',c',d'⟩:=y
 rw [← pair_all]
 refine SeqAt.RcAt.tuples (items:=#[.int p.1 t,.int p.2 t']) (items2:=#[.int q.1 t2,.int q.2 t2']) ⟨o,g,c,n,d⟩ ⟨o',g',c',n',d'⟩ hu fun j h1 h2=>?_
 match j,h1,h2 with
 | 0,_,_=>exact SeqAt.EqAt.int_int _ _ _ _
 | 1,_,_=>exact SeqAt.EqAt.int_int _ _ _ _
theorem eq_pt {u v:Value} {p q:Pt} (hu:A.units < cLine) (x:TupAt s.heap u p) (y:TupAt s.heap v q):SeqAt.EqAt A s u v (decide (p = q)):=by
 have r:=rc_pt hu x y
 obtain ⟨b,o,t,t',n,rfl,g,c,d⟩:=id x
 obtain ⟨b',o',t2,t2',n',rfl,g',c',d'⟩:=id y
 by_cases e:b = b'
 ·subst e
  rw [decide_eq_true (x.inj y)]
  exact SeqAt.EqAt.same _
 ·exact SeqAt.EqAt.of_refs e r
theorem pair_range {us vs:List Value} {ps qs:List Pt} {h:Heap} (x:Paired (TupAt h) us ps) (y:Paired (TupAt h) vs qs) (hl:us.length = vs.length) :
  ((List.range us.toArray.size).all fun j=>decide (ps.getD j (0,0) = qs.getD j (0,0))) = decide (ps = qs):=by
 have l1:=x.length
 have l2:=y.length
 rw [Bool.eq_iff_iff,List.all_eq_true,decide_eq_true_iff]
 constructor
 ·intro h
  apply List.ext_getElem
  ·omega
  ·intro j h1 h2
   have:=of_decide_eq_true (h j (by simp; omega))
   simpa [h1,h2] using this
 ·rintro rfl j _
  exact decide_eq_true rfl
theorem eq_pts_at {us vs:List Value} {ps qs:List Pt} (hu:A.units < cLine) (x:Paired (TupAt s.heap) us ps) (y:Paired (TupAt s.heap) vs qs) (j:Nat) (h1:j < us.toArray.size) (h2:j < vs.toArray.size) :
  SeqAt.EqAt A s us.toArray[j] vs.toArray[j] (decide (ps.getD j (0,0) = qs.getD j (0,0))):=by
 have h1':j < us.length:=by simpa using h1
 have h2':j < vs.length:=by simpa using h2
 obtain ⟨p,e1,e2⟩:=Pair.get (i:=j) (x:=us[j]) x (by simp [h1'])
 obtain ⟨q,e3,e4⟩:=Pair.get (i:=j) (x:=vs[j]) y (by simp [h2'])
 have:=eq_pt hu e2 e4
 rw [List.getD_eq_getElem?_getD,List.getD_eq_getElem?_getD,e1,e3]
 simpa using this
theorem rc_pts {a b:Addr} {us vs:List Value} {ps qs:List Pt} (hu:A.units+1 < cLine) (ha:s.heap.IsList a us.toArray) (hb:s.heap.IsList b vs.toArray) (x:Paired (TupAt s.heap) us ps) (y:Paired (TupAt s.heap) vs qs) :
  SeqAt.RcAt A s (.ref a) (.ref b) (decide (ps = qs)):=by
 have l1:=x.length
 have l2:=y.length
 by_cases hl:us.length = vs.length
 ·rw [← pair_range x y hl]
  exact SeqAt.RcAt.lists ha hb (by simpa using hl) (by omega) fun j h1 h2=>eq_pts_at (by show A.units+1 < cLine; exact hu) x y j h1 h2
 ·rw [decide_eq_false (fun e=>hl (by rw [l1,l2,e]))]
  exact SeqAt.RcAt.lists_lengths ha hb (by simp [hl]) (by omega)
end
section
variable {X:Cx}
def rPts (K:PySem.W.Frag) (g:List Pt→List Pt→Bool):R2:=fun x y H Q=>∃ a b xs ys ps qs,x = .ref a∧y = .ref b∧SqL K H a xs∧SqL K H b ys∧ArePts H xs ps∧ArePts H ys qs∧Q (.bl (g ps qs)) H
theorem op_eqPs (hu:X.A.units+16 < cLine):OpR X (compareOp .Eq) (rPts X.K fun ps qs=>decide (ps = qs)):=by
 intro pins s σ H x y v u Q I rx ry h
 obtain ⟨a,b,xs,ys,ps,qs,rfl,rfl,ha,hb,hp,hq,k⟩:=h
 obtain rfl:=rx
 obtain rfl:=ry
 obtain ⟨us,r1,l1,_⟩:=I.list ha
 obtain ⟨vs,r2,l2,_⟩:=I.list hb
 exact rc_pts (by omega) l1.isList l2.isList (I.tupsAt r1 hp) (I.tupsAt r2 hq) X.prog X.w X.xe _ ⟨.bl _,H,I,rfl,k⟩
end
end L2
set_option maxRecDepth 100000
namespace L2
open PySem PySem.Spec PyProof.Rows Geo PySem.W STab
section
variable {prog:Program} {w:World} {A:Around} {E:Value→Shared→Prop} {s:Shared}
theorem lri_no_len:typeLookup (.type "list_reverseiterator") "__len__" = pure none:=by (rw [typeLookup_type,builtinLookup_eq_fast]); kernel_rfl
theorem slot_lri_hint:typeLookup (.type "list_reverseiterator") "__length_hint__" = pure (some (.builtin "list_reverseiterator.__length_hint__")):=by (rw [typeLookup_type,builtinLookup_eq_fast]); kernel_rfl
theorem lri_hint {I:Addr} {Q:Bool→Shared→Prop} (hT:s.TypeIs (.ref I) "list_reverseiterator") (h:Q false s):wpAny (model prog w) A (Builtin.List.listLengthHint (.ref I)) Q E s:=by
 unfold Builtin.List.listLengthHint
 refine wpAny_bind (wpAny_specialOf hT lri_no_len ?_)
 show wpAny _ A (specialOf (Value.ref I) (Str.ofString "__length_hint__") >>= fun _=>_) _ _ _
 refine wpAny_bind (wpAny_specialOf hT slot_lri_hint ?_)
 generalize hid:("list_reverseiterator.__length_hint__":String) = id0
 dsimp only
 rw [show splitId id0 = some ("list_reverseiterator","__length_hint__") from by subst hid; decide +kernel]
 dsimp only
 subst hid
 refine wpAny_bind (wpAny_isInstance (T:="list_reverseiterator") (b:=true) hT (by (rw [isSubtype_type]); kernel_rfl) ?_)
 refine wpAny_ite_split (fun hab=>absurd hab (by decide)) (fun _=>?_)
 (refine wpAny_ite_split (fun _=>?_) (fun hab=>absurd (by decide +kernel) hab))
 refine wpAny_ite_split (fun hab=>absurd hab (by decide +kernel)) (fun _=>?_)
 exact wpAny_pure h
theorem ext_rev {R:Result→Shared→Prop} {I l S:Addr} {items:Array Value} {c0:Nat} (hh:A.handled = none) (hne:l ≠ I) (hSI:S ≠ I) (hSl:S ≠ l) (hit:s.heap.IsRevIter I l ((items.size:Int) - 1)) (hl:s.heap.IsList l items) (hn:items.size≤sizeLine)
  (hS:s.heap.get? S = some { cls:=.type "list",data:=.seq #[] c0 })
  (fin:∀ h' tk acc c,(∀ b o,b ≠ S→b ≠ I→s.heap.get? b = some o→h'.get? b = some o)→h'.get? S = some { cls:=.type "list",dict:=none,data:=.seq acc c,slots:=#[] }→ItemsOf (fun i v=>items[items.size - 1 - i]? = some v) acc items.size→R (.ok (.ret .none)) { s with heap:=h',toks:=tk }) :
  wpAny (model prog w) A.in1 (Builtin.List.listExtendWith (.ref S) (.ref I) .none)
   (fun fn s'=>match fn with | .done f=>R (.ok f) s' | .again c'=>c'.quiet = true∧codeAny (model prog w) A c' R s') (fun e s'=>R (.error e) s') s:=by
 have hSf:S ∉ [I,l]:=by simp only [List.mem_cons,List.not_mem_nil,or_false,not_or]; exact ⟨hSI,hSl⟩
 have key:∀ (h:Heap) (c1:Nat),h.IsRevIter I l ((items.size:Int) - 1)→h.IsList l items→(∀ b o,b ≠ S→s.heap.get? b = some o→h.get? b = some o)→h.get? S = some { cls:=.type "list",data:=.seq #[] c1 } →
   codeAny (model prog w) A (.builtin "list.extend.loop" ⟨[.ref S,.ref I,.none],[]⟩) R { s with heap:=h }:=by
  intro h c1 hi' hl' hk hS1
  refine codeAny_extend_loopS ((Walks.listRev (prog:=prog) (w:=w) (A:=A.in1) hh I l hne items).toS) hn S hSf .none items.size 0 _ #[] c1 rfl (Nat.zero_le _) ⟨Nat.zero_le _,by simpa using hi',hl'⟩ hS1 (ItemsOf.nil _) fun s' acc c hm hS' hacc=>?_
  rw [Moved.eq_with hm]
  exact fin s'.heap s'.toks acc c (fun b o n1 n2 e=>hm.heap b o (by simp only [List.mem_cons,List.not_mem_nil,or_false,not_or]; exact ⟨n1,n2⟩) (hk b o n1 e)) hS' hacc
 unfold Builtin.List.listExtendWith
 refine wpAny_bind (wpAny_typeOf hit.typeIs ?_)
 have h1:Builtin.List.listSameRef (.ref S) (.ref I) = false:=by simp [Builtin.List.listSameRef,hSI]
 have h2:(Value.type "list_reverseiterator" == Value.type "list") = false:=by decide
 have h3:(Value.type "list_reverseiterator" == Value.type "tuple") = false:=by decide
 (simp only [h1,h2,h3,Bool.or_false,Bool.false_eq_true,if_false])
 refine wpAny_bind (wpAny_pyIter_revIter hit (wpAny_bind (wpAny_holding (lri_hint hit.typeIs ?_))))
 have oth:∀ b o,b ≠ S→s.heap.get? b = some o→((s.heap.update S (Obj.mapSeq (·.push Value.none))).update S (Obj.mapSeq (·.pop))).get? b = some o:=fun b o hb e=>(Heap.get?_update_other _ _ (Ne.symm hb)).trans ((Heap.get?_update_other _ _ (Ne.symm hb)).trans e)
 refine wpAny_ite_split (fun _=>?_) (fun _=>wpAny_pure ⟨plainId_quiet (PySem.F.plain_extend_loop) _,key _ c0 hit hl (fun b o _ e=>e) hS⟩)
 refine wpAny_bind (wpAny_rule (wpAny_bind ?_))
 show wpAny _ _ (updateSeq S (·.push Value.none) >>= fun _=>updateSeq S (·.pop)) _ _ _
 refine wpAny_bind (wpAny_updateSeq hS rfl ?_)
 have g2:=Heap.get?_update_self (Obj.mapSeq (·.push Value.none)) hS rfl
 (refine wpAny_updateSeq (hz:=by seq_fits) g2 rfl ?_)
 have g3:=Heap.get?_update_self (Obj.mapSeq (·.pop)) g2 rfl
 exact wpAny_pure ⟨plainId_quiet (PySem.F.plain_extend_loop) _,key _ _ (hit.at fun o e=>oth I o (Ne.symm hSI) e) (hl.at fun o e=>oth l o (Ne.symm hSl) e) oth g3⟩
theorem call_list_rev {I l:Addr} {items:Array Value} {Q:Value→Shared→Prop} (hh:A.handled = none) (hne:l ≠ I) (hit:s.heap.IsRevIter I l ((items.size:Int) - 1)) (hl:s.heap.IsList l items) (hn:items.size≤sizeLine)
  (hQ:∀ h' tk acc c,(∀ b o,b ≠ I→s.heap.get? b = some o→h'.get? b = some o)→h'.get? s.heap.objs.size = some { cls:=.type "list",dict:=none,data:=.seq acc c,slots:=#[] }→ItemsOf (fun i v=>items[items.size - 1 - i]? = some v) acc items.size→Q (.ref s.heap.objs.size) { s with heap:=h',toks:=tk }) :
  wpAny (model prog w) A (call (.type "list") [.ref I]) Q E s:=by
 have lI:I < s.heap.objs.size:=let ⟨_,e,_⟩:=hit; Heap.lt_size e
 have ll:l < s.heap.objs.size:=let ⟨_,e,_⟩:=hl; Heap.lt_size e
 refine callType_codes (Q₁:=fun obj s1=>obj = Value.ref s.heap.objs.size∧s1 = { s with heap:=s.heap.push { cls:=.type "list",data:=.seq #[] } }) PySem.F.called_list (PySem.F.typeCall_list_1 _) (PySem.F.entry_list_init) (code_list_new _ ⟨rfl,rfl⟩) fun obj s1 h1=>?_
 obtain ⟨rfl,rfl⟩:=h1
 have hS:(s.heap.push { cls:=.type "list",data:=.seq #[] }).get? s.heap.objs.size = some { cls:=.type "list",data:=.seq #[] }:=Heap.get?_push_size _ rfl
 refine ⟨⟨_,hS,rfl⟩,PySem.F.args_list_init_2 _ _,?_⟩
 show wpAny _ _ (Builtin.List.listItems (.ref s.heap.objs.size) >>= fun old=>Builtin.List.listUpdate (.ref s.heap.objs.size) (fun _=>#[]) >>= fun _=>letGo old.toList.reverse >>= fun _=>Builtin.List.listExtendWith (.ref s.heap.objs.size) (.ref I) .none) _ _ _
 refine wpAny_bind ?_
 unfold Builtin.List.listItems
 refine wpAny_bind (wpAny_seqItems hS rfl (wpAny_pure ?_))
 show wpAny _ _ (updateSeq s.heap.objs.size (fun _=>#[]) >>= fun _=>letGo (#[]:Array Value).toList.reverse >>= fun _=>Builtin.List.listExtendWith (.ref s.heap.objs.size) (.ref I) .none) _ _ _
 refine wpAny_bind (wpAny_updateSeq hS rfl ?_)
 have g2:=Heap.get?_update_self (Obj.mapSeq (fun _=>(#[]:Array Value))) hS rfl
 have oth:∀ b o,b ≠ s.heap.objs.size→s.heap.get? b = some o→((s.heap.push { cls:=.type "list",data:=.seq #[] }).update s.heap.objs.size (Obj.mapSeq (fun _=>(#[]:Array Value)))).get? b = some o:=fun b o hb e=>(Heap.get?_update_other _ _ (Ne.symm hb)).trans (Heap.get?_push_of_some _ e)
 refine wpAny_bind (wpAny_letGo ?_)
 refine ext_rev (A:=A.in1) hh hne (Nat.ne_of_gt lI) (Nat.ne_of_gt ll) (hit.at fun o e=>oth I o (Nat.ne_of_lt lI) e) (hl.at fun o e=>oth l o (Nat.ne_of_lt ll) e) hn g2 fun h' tk acc c kp g ha=>⟨rfl,?_⟩
 exact hQ h' tk acc c (fun b o n e=>kp b o (Nat.ne_of_lt (Heap.lt_size e)) n (oth b o (Nat.ne_of_lt (Heap.lt_size e)) e)) g ha
end
def tListRev (K:PySem.W.Frag) (te:TE):TE:=fun σ H Q=>te σ H fun x H1=>∃ p ys,x = .ref p∧SqL K H1 p ys∧∀ l,H1 l = none→Q (.ref l) (upd H1 l (.lst ys.reverse))
theorem pe_listrev {X:Cx} {e:Expr} {te:TE} {p1 p2 pos1 pos2:Pos} (hh:X.A.handled = none) (hg1:Gl X "list") (hm1:X.mg "list" = none) (hg2:Gl X "reversed") (hm2:X.mg "reversed" = none) (he:PE X e te)
  (hs:starEach [e] X.env = [(false,eval e X.env)]:=by rfl) :
  PE X (.Call (.Name "list" p1) [.Call (.Name "reversed" p2) [e] [] pos2] [] pos1) (tListRev X.K te):=by
 intro pins s σ H Q I h
 refine wpAny_Call_Name_kw (ld_blt I hg1 hm1 (by decide +kernel:bootBuiltins "list" = some (.type "list")) ?_)
 refine callWith_type1 ?_ rfl rfl
 show wpAny _ _ (spliced ((false,eval (.Call (.Name "reversed" p2) [e] [] pos2) X.env) :: [])) _ _ _
 refine Calls.spliced_cons ?_
 refine wpAny_Call_Name_kw (ld_blt I hg2 hm2 (by decide +kernel:bootBuiltins "reversed" = some (.type "reversed")) ?_)
 refine callWith_type1 ?_ hs rfl
 rw [hs]
 show wpAny _ _ (spliced ((false,eval e X.env) :: [])) _ _ _
 refine Calls.spliced_cons (thn (he pins s σ H _ I h) fun u s1 ⟨x,H1,I1,r1,p,ys,ex,hq,k⟩=>?_)
 subst ex
 obtain rfl:u = Value.ref p:=r1
 refine Calls.spliced_nil ?_
 obtain ⟨its,r,pl,hz⟩:=I1.list hq
 have hl:=r.length
 refine call_reversed_list pl.isList (Calls.spliced_nil ?_)
 have lp:p < s1.heap.objs.size:=let ⟨_,e,_⟩:=pl.isList; Heap.lt_size e
 refine call_list_rev (s:={ s1 with heap:=s1.heap.push (revObj p ((its.toArray.size:Int) - 1)) }) (l:=p) (items:=its.toArray) hh (Nat.ne_of_lt lp) ⟨_,Heap.get?_push_size _ rfl,rfl,rfl⟩ (pl.isList.push _) (by rw [List.size_toArray]; omega) fun h' tk acc c kp g ha=>?_
 have psz:(s1.heap.push (revObj p ((its.toArray.size:Int) - 1))).objs.size = s1.heap.objs.size+1:=Heap.size_push ..
 have g':h'.get? (s1.heap.objs.size+1) = some { cls:=.type "list",dict:=none,data:=.seq acc c,slots:=#[] }:=by rw [← psz]; exact g
 have eacc:acc.toList = its.reverse:=by
  apply List.ext_getElem?
  intro j
  obtain ⟨a1,a2⟩:=ha
  simp only [List.size_toArray] at a1 a2
  by_cases hj:j < acc.size
  ·have:=a2 j acc[j] (by simp [hj])
   rw [Array.getElem?_toList,List.getElem?_reverse (by omega)]
   simp only [List.getElem?_toArray] at this
   rw [this]; simp [hj]
  ·rw [List.getElem?_eq_none (by simp; omega),List.getElem?_eq_none (by simp; omega)]
 have n0:H1 (s1.heap.objs.size+1) = none:=I1.hok.fresh (Nat.le_succ _)
 have er:(Value.ref (s1.heap.push (revObj p ((its.toArray.size:Int) - 1))).objs.size) = Value.ref (s1.heap.objs.size+1):=by rw [psz]
 refine ⟨.ref (s1.heap.objs.size+1),_,I1.laid (t':=tk) (o:=.lst ys.reverse) (fun b v e=>kp b v (Nat.ne_of_lt (Heap.lt_size e)) (Heap.get?_push_of_some _ e)) (Nat.le_succ _) ⟨by rw [List.length_reverse]; exact hz,its.reverse,c,Pair.reverse r,?_⟩,er,k _ n0⟩
 rw [g',← eacc]
def tyOfV (K:PySem.W.Frag) (H:Hp) (x:V) (T:String):Prop:=match x with
 | .int _=>T = "int"
 | .bl _=>T = "bool"
 | .str _=>T = "str"
 | .non=>T = "NoneType"
 | .ref a=>(T = "list"∧∃ xs,SqL K H a xs)∨(T = "tuple"∧∃ xs,SqT K H a xs)
 | _=>False
theorem call_isi {X:Cx}:CallR X (.builtin "isinstance") (fun xs H Q=>∃ x T U b,xs = [x,.ty U]∧tyOfV X.K H x T∧kitOne X.K (.type T) (.type U) = some b∧Q (.bl b) H):=by
 intro pins s σ H xs us Q I rv h
 obtain ⟨x,T,U,b,rfl,ht,hk,k⟩:=h
 cases rv with
 | cons r1 rv =>
  cases rv with
  | cons r2 rv =>
   cases rv
   obtain rfl:=r2
   have done:∀ tk,EP X pins σ Q (.bool b) { s with toks:=tk }:=fun tk=>⟨.bl b,H,I.tok tk,rfl,k⟩
   cases x with
   | int i =>
    obtain ⟨t,rfl⟩:=r1
    obtain rfl:T = "int":=ht
    exact kia_one (K:=X.K) kitx_int I.kIn trivial hk (fun e=>nomatch e) done
   | bl i =>
    obtain rfl:=r1
    obtain rfl:T = "bool":=ht
    exact kia_one (K:=X.K) kitx_bool I.kIn trivial hk (fun e=>nomatch e) done
   | str i =>
    obtain ⟨t,rfl⟩:=r1
    obtain rfl:T = "str":=ht
    exact kia_one (K:=X.K) kitx_str I.kIn trivial hk (fun e=>nomatch e) done
   | non =>
    obtain rfl:=r1
    obtain rfl:T = "NoneType":=ht
    exact kia_one (K:=X.K) kitx_none I.kIn trivial hk (fun e=>nomatch e) done
   | ref a =>
    obtain rfl:=r1
    rcases ht with ⟨rfl,xs,hq⟩ | ⟨rfl,xs,hq⟩
    ·obtain ⟨its,_,pl,_⟩:=I.list hq
     obtain ⟨o,e,c,_⟩:=pl.isList
     exact kia_one (K:=X.K) kitx_list I.kIn ⟨o,e,c⟩ hk (fun e=>nomatch e) done
    ·obtain ⟨its,_,pl,_⟩:=I.tuple hq
     obtain ⟨o,e,c,_⟩:=pl
     exact kia_one (K:=X.K) kitx_tuple I.kIn ⟨o,e,c⟩ hk (fun e=>nomatch e) done
   | _=>exact ht.elim
theorem kit_int_int {K:PySem.W.Frag}:kitOne K (.type "int") (.type "int") = some true:=by rfl
theorem kit_int_bool {K:PySem.W.Frag}:kitOne K (.type "int") (.type "bool") = some false:=by rfl
theorem kit_list_list {K:PySem.W.Frag}:kitOne K (.type "list") (.type "list") = some true:=by rfl
theorem kit_tup_tup {K:PySem.W.Frag}:kitOne K (.type "tuple") (.type "tuple") = some true:=by rfl
end L2
set_option maxRecDepth 100000
namespace L2
open PySem PySem.Spec PyProof.Rows PyProof.Rows.LSm Geo PySem.W STab
section
variable {X:Cx} {pins:List (Addr×Obj)} {σ:St} {H:Hp} {s:Shared}
theorem Inv.newsKept {h':Heap} {m:Str→Option Value} {t':Nat} (I:Inv X pins σ H s) (hm:s.heap.Ns X.env.locals m) (F:Fr X.base X.env.locals h' m) (N:News X.base X.env.locals h' (allNews X.base s.heap X.env.locals)) :
  Inv X pins σ H { s with heap:=h',toks:=t' }:=by
 have kp:=news_keeps (more:=[]) I F N
 have neL:∀ b u,H b = some u→b ≠ X.env.locals:=fun b u e=>ne_of_none e I.free
 refine I.step (g':=s.gens) (d':=s.drawn) (ch:=[]) (fun _ z=>nomatch z) (fun b ob hb _ _ e _=>kp b ob hb e) (fun b ob hb _ _ e _=>⟨ob.slots,kp b ob hb e⟩) (fun b ob _ e n=>n) (fun b ob _ e=>?_)
  (fun b xs e=>e) (fun b ob u e=>e) (fun b ps e=>⟨#[],by rw [e]; simp⟩) (fun m' hm'=>?_) (fun b u e=>?_) I.bare
 ·by_cases hb:b = X.env.locals
  ·obtain ⟨oL,_,_,hoL,_⟩:=F.ns
   exact ⟨oL,by rw [hb]; exact hoL⟩
  ·exact ⟨ob,kp b ob hb e⟩
 ·rw [← ns_one hm hm']; exact F.ns
 ·refine (I.hok b u e).stay (fun c v hc q=>?_) (fun c q=>q) fun c xs q=>q
  rcases hc with z | z
  ·rw [z] at q ⊢; exact kp b v (neL b u e) q
  ·exact kp c v (neL c _ z) q
theorem ints_are:∀ {ns:List Int} {us:List Value},Vals (ns.map V.int) us→IntsAre us ns
 | [],_,.nil=>.nil
 | n :: ns,_,.cons r t=>by
  obtain ⟨k,rfl⟩:=r
  exact .cons n k (ints_are t)
theorem bools_are:∀ {bs:List Bool} {us:List Value},Vals (bs.map V.bl) us→BoolsAre us bs
 | [],_,.nil=>.nil
 | b :: bs,_,.cons r t=>by
  obtain rfl:=r
  exact .cons b (bools_are t)
end
section
variable {X:Cx}
theorem call_minL (hh:X.A.handled = none):CallR X (.builtin "min") (fun xs H Q=>∃ (p:Addr) (ns:List Int),xs = [.ref p]∧SqL X.K H p (ns.map V.int)∧ns ≠ []∧∀ M,M ∈ ns→(∀ a ∈ ns,M≤a)→Q (.int M) H):=by
 intro pins s σ H xs us Q I rv h
 obtain ⟨p,ns,rfl,hq,hne,k⟩:=h
 cases rv with
 | cons r1 rv =>
  cases rv
  obtain rfl:=r1
  obtain ⟨its,r,pl,_⟩:=I.list hq
  obtain ⟨m,F⟩:=I.fr
  refine kso_min F (news_all (h:=s.heap)) pl.isList (ints_are r) (List.length_pos_iff.mpr hne) hh fun h' M t tk F' N' m1 m2=>?_
  exact ⟨.int M,H,I.newsKept F.ns F' N',⟨t,rfl⟩,k M m1 m2⟩
theorem call_maxL (hh:X.A.handled = none):CallR X (.builtin "max") (fun xs H Q=>∃ (p:Addr) (ns:List Int),xs = [.ref p]∧SqL X.K H p (ns.map V.int)∧ns ≠ []∧∀ M,M ∈ ns→(∀ a ∈ ns,a≤M)→Q (.int M) H):=by
 intro pins s σ H xs us Q I rv h
 obtain ⟨p,ns,rfl,hq,hne,k⟩:=h
 cases rv with
 | cons r1 rv =>
  cases rv
  obtain rfl:=r1
  obtain ⟨its,r,pl,_⟩:=I.list hq
  obtain ⟨m,F⟩:=I.fr
  refine kso_max F (news_all (h:=s.heap)) pl.isList (ints_are r) (List.length_pos_iff.mpr hne) hh fun h' M t tk F' N' m1 m2=>?_
  exact ⟨.int M,H,I.newsKept F.ns F' N',⟨t,rfl⟩,k M m1 m2⟩
theorem call_sumL (hh:X.A.handled = none):CallR X (.builtin "sum") (fun xs H Q=>∃ (p:Addr) (ns:List Int),xs = [.ref p]∧SqL X.K H p (ns.map V.int)∧Q (.int ns.sum) H):=by
 intro pins s σ H xs us Q I rv h
 obtain ⟨p,ns,rfl,hq,k⟩:=h
 cases rv with
 | cons r1 rv =>
  cases rv
  obtain rfl:=r1
  obtain ⟨its,r,pl,_⟩:=I.list hq
  obtain ⟨m,F⟩:=I.fr
  refine sum_ints F (news_all (h:=s.heap)) hh pl.isList (ints_are r) fun h' tk t F' N'=>?_
  exact ⟨.int _,H,I.newsKept F.ns F' N',⟨t,rfl⟩,k⟩
theorem call_allL (hh:X.A.handled = none):CallR X (.builtin "all") (fun xs H Q=>∃ (p:Addr) (bs:List Bool),xs = [.ref p]∧SqL X.K H p (bs.map V.bl)∧Q (.bl (bs.all id)) H):=by
 intro pins s σ H xs us Q I rv h
 obtain ⟨p,bs,rfl,hq,k⟩:=h
 cases rv with
 | cons r1 rv =>
  cases rv
  obtain rfl:=r1
  obtain ⟨its,r,pl,_⟩:=I.list hq
  obtain ⟨m,F⟩:=I.fr
  refine all_bools F (news_all (h:=s.heap)) hh pl.isList (bools_are r) fun h' tk F' N'=>?_
  exact ⟨.bl _,H,I.newsKept F.ns F' N',rfl,k⟩
end
end L2
set_option maxRecDepth 100000
namespace L2
open PySem PySem.Spec PyProof.Rows Geo PySem.W STab
def cls (names:List (Str×NameKind)) (env:Env) (cs:List (Str×Addr)):List (Str×Addr):=names.foldl (fun cs x=>if (x.2 == NameKind.free) = true then (x.1,(env.cells.lookup x.1).getD 0) :: cs else cs) cs
theorem clos_go {env:Env}:∀ (names:List (Str×NameKind)) (cs:List (Str×Addr)),(∀ x ∈ names,x.2 = .free→∃ c,env.cells.lookup x.1 = some c) →
  (forIn names cs (fun x r=>if (x.2 == NameKind.free) = true then do let a ← cellOf env x.1; pure (ForInStep.yield ((x.1,a) :: r)) else pure (ForInStep.yield r)):Sem (List (Str×Addr))) = pure (cls names env cs)
 | [],cs,_=>by rw [List.forIn_nil]; rfl
 | x :: r,cs,h=>by
  rw [List.forIn_cons]
  by_cases hx:(x.2 == NameKind.free) = true
  ·obtain ⟨c,hc⟩:=h x List.mem_cons_self (by simpa using hx)
   have e:cellOf env x.1 = pure c:=by unfold cellOf; rw [hc]
   simp only [hx,if_true,e,pure_bind]
   rw [clos_go r _ fun y hy=>h y (List.mem_cons_of_mem _ hy)]
   unfold cls
   rw [List.foldl_cons,if_pos hx,hc]; rfl
  ·simp only [hx,Bool.false_eq_true,if_false,pure_bind]
   rw [clos_go r _ fun y hy=>h y (List.mem_cons_of_mem _ hy)]
   unfold cls
   rw [List.foldl_cons,if_neg hx]
theorem clos_eq {scope:Scope} {env:Env} (h:∀ x ∈ scope.names,x.2 = .free→∃ c,env.cells.lookup x.1 = some c):closureFor scope env = pure (cls scope.names env []):=by
 have:=clos_go (env:=env) scope.names [] h
 unfold closureFor
 simp only [bind_pure]
 exact this
theorem cls_sub {env:Env}:∀ (names:List (Str×NameKind)) (cs:List (Str×Addr)),(∀ x ∈ names,x.2 = .free→∃ c,env.cells.lookup x.1 = some c)→(∀ x c,cs.lookup x = some c→env.cells.lookup x = some c) →
  ∀ x c,(cls names env cs).lookup x = some c→env.cells.lookup x = some c
 | [],cs,_,h0,x,c,e=>h0 x c e
 | y :: r,cs,h,h0,x,c,e=>by
  unfold cls at e
  rw [List.foldl_cons] at e
  refine cls_sub r _ (fun z hz=>h z (List.mem_cons_of_mem _ hz)) ?_ x c e
  intro z d hz
  by_cases hy:(y.2 == NameKind.free) = true
  ·rw [if_pos hy] at hz
   obtain ⟨c',hc'⟩:=h y List.mem_cons_self (by simpa using hy)
   rw [List.lookup_cons] at hz
   cases q:z == y.1 with
   | true =>
    rw [q] at hz
    simp only at hz
    rw [hc'] at hz; simp at hz; subst hz
    rw [eq_of_beq q]; exact hc'
   | false=>rw [q] at hz; exact h0 z d hz
  ·rw [if_neg hy] at hz; exact h0 z d hz
theorem cls_has {env:Env}:∀ (names:List (Str×NameKind)) (cs:List (Str×Addr)) (x:Str),(x,NameKind.free) ∈ names∨(∃ c,cs.lookup x = some c)→∃ c,(cls names env cs).lookup x = some c
 | [],cs,x,h=>by
  rcases h with h | h
  ·simp at h
  ·exact h
 | y :: r,cs,x,h=>by
  unfold cls
  rw [List.foldl_cons]
  refine cls_has r _ x ?_
  rcases h with h | ⟨c,h⟩
  ·rcases List.mem_cons.mp h with z | z
   ·right
    rw [← z]
    simp [List.lookup_cons]
   ·exact .inl z
  ·right
   by_cases hy:(y.2 == NameKind.free) = true
   ·rw [if_pos hy,List.lookup_cons]
    cases q:x == y.1 with
    | true=>exact ⟨_,rfl⟩
    | false=>exact ⟨c,h⟩
   ·rw [if_neg hy]; exact ⟨c,h⟩
def compCx (X:Cx) (N':List Str) (scope:Scope) (C:Addr) (s3:Shared) (H3:Hp) (fp:List Addr) (pins:List (Addr×Obj)):Cx where
 prog:=X.prog
 w:=X.w
 K:=X.K
 mg:=X.mg
 base:=X.base
 A:=X.A
 N:=N'
 s₀:=s3
 H₀:=H3
 env:=compEnvC scope (cls scope.names X.env []) C X.env
 outer:=X.stack
 stack:=X.stack
 ex:=fp
 fn:=fun _=>false
 calm:=X.calm
 pn:=X.pn++pins
 xe:=fun _ _=>False
structure CompScope (X:Cx) (scope:Scope) (N':List Str) (caps:List (Option Nat)):Prop where
 kind:scope.kind = .function
 nocell:∀ z ∈ scope.names,z.2 ≠ .cell
 names:∀ z ∈ scope.names,z.2 = .local→scope.names.lookup z.1 = some .local
 frees:∀ z ∈ scope.names,z.2 = .free→X.env.scope.names.lookup z.1 = some .cell
 nd:N'.Nodup
 len:caps.length = N'.length
 cap:∀ (i j:Nat),caps[i]? = some (some j)→∃ x:Str,N'[i]? = some x∧X.N[j]? = some x∧(x,NameKind.free) ∈ scope.names∧X.env.scope.names.lookup x = some .cell∧((relabel scope X.env).names.lookup x = some .cell∨(relabel scope X.env).names.lookup x = some .free)
def capSt (caps:List (Option Nat)) (σ:St):St:=caps.map fun o=>o.bind fun j=>σ.getD j none
theorem relabel_look {scope:Scope} {env:Env} {x:Str} {k:NameKind} (h:(relabel scope env).names.lookup x = some k):∃ k',(x,k') ∈ scope.names∧(k = k'∨k' = .free):=by
 unfold relabel at h
 have hm:=PySem.mem_of_lookup h
 obtain ⟨⟨n,k'⟩,h1,h2⟩:=List.mem_map.mp hm
 dsimp only at h2
 split at h2
 ·rename_i hc
  cases h2
  simp only [Bool.and_eq_true,beq_iff_eq] at hc
  exact ⟨k',h1,.inr hc.1.1⟩
 ·cases h2
  exact ⟨k,h1,.inl rfl⟩
section
variable {X:Cx} {pins:List (Addr×Obj)} {σ:St} {H:Hp} {s:Shared} {scope:Scope} {N':List Str} {caps:List (Option Nat)}
theorem CompScope.cells (S:CompScope X scope N' caps) (ok:X.Ok):∀ z ∈ scope.names,z.2 = .free→∃ c,X.env.cells.lookup z.1 = some c:=fun z hz hf=>ok.has z.1 (.inl (S.frees z hz hf))
theorem comp_enter (S:CompScope X scope N' caps) {s3:Shared} {H3:Hp} {h1:Heap} {fp:List Addr} {m0:Str→Option Value} {tk:Nat} (I:Inv X pins σ H3 s3) (hfp:∀ b ∈ fp,FpOk X pins H3 b) (hfl:∀ b ∈ fp,b < s3.heap.objs.size)
  (hn:h1.Ns s3.heap.objs.size m0) (kp:∀ b o,s3.heap.get? b = some o→h1.get? b = some o) :
  Inv (compCx X N' scope s3.heap.objs.size s3 H3 fp pins) [] (capSt caps σ) H3 { s3 with heap:=h1,toks:=tk }:=by
 have hc:=S.cells I.ok
 have sub:=cls_sub (env:=X.env) scope.names [] hc (fun x c e=>by simp at e)
 have notstk:∀ b,b ≠ X.env.locals→b ∉ X.fs→b ∉ frs X.stack:=fun b h1 h2 hb=>by
  rcases List.mem_cons.mp (I.stkSub b hb) with z | z
  ·exact h1 z
  ·exact h2 z
 have ok:(compCx X N' scope s3.heap.objs.size s3 H3 fp pins).Ok:=by
  refine ⟨I.ok.mod,S.kind,I.ok.glob,I.ok.blt,Nat.le_refl _,fun x y c e1 e2=>I.ok.inj x y c (sub x c e1) (sub y c e2),fun x hx=>?_,fun x c hf=>(by cases hf),I.ok.hd,I.ok.frames,.inl rfl,fun b hb=>?_,I.bs,Nat.le_trans I.ok.bsz I.sz,fun b o e hb=>?_,fun b hb=>?_,I.stack,I.stkFree⟩
  ·have hx':(relabel scope X.env).names.lookup x = some .cell∨(relabel scope X.env).names.lookup x = some .free:=hx
   refine cls_has scope.names [] x (.inl ?_)
   rcases hx' with z | z
   ·obtain ⟨k',m1,m2⟩:=relabel_look z
    rcases m2 with m2 | m2
    ·exact absurd m2.symm (S.nocell _ m1)
    ·rw [m2] at m1; exact m1
   ·obtain ⟨k',m1,m2⟩:=relabel_look z
    rcases m2 with m2 | m2
    ·rw [← m2] at m1; exact m1
    ·rw [m2] at m1; exact m1
  ·exact ⟨Nat.ne_of_lt (hfl b hb),fun x c e=>(hfp b hb).2.2.2.2.1 x c (sub x c e)⟩
  ·obtain ⟨_,f1,f2,f3,_⟩:=hfp b hb
   rcases f3 with z | z
   ·exact I.ok.noex b o e z
   ·exact absurd (Nat.lt_of_lt_of_le (Heap.lt_size (I.ok.bs b o e).1) z) (Nat.lt_irrefl _)
  ·exact notstk b (hfp b hb).2.1 (hfp b hb).2.2.1
 have Cn:H3 s3.heap.objs.size = none:=I.hok.fresh (Nat.le_refl _)
 refine ⟨ok,rfl,I.bare,Un.kept kp,⟨m0,hn,fun i x v e1 e2 e3=>?_⟩,fun x c e=>?_,Cn,fun x c e=>I.freeC x c (sub x c e),fun p hp=>?_,I.hok.kept kp,?_⟩
 ·-- a captured name
  have e2':(caps.map fun o=>o.bind fun j=>σ.getD j none)[i]? = some (some v):=e2
  rw [List.getElem?_map] at e2'
  cases q:caps[i]? with
  | none=>rw [q] at e2'; cases e2'
  | some o =>
   rw [q] at e2'
   simp only [Option.map_some,Option.some.injEq] at e2'
   cases o with
   | none=>cases e2'
   | some j =>
    have e2'':σ.getD j none = some v:=e2'
    have e4:σ[j]? = some (some v):=by
     rw [List.getD_eq_getElem?_getD] at e2''
     cases q2:σ[j]? with
     | none=>rw [q2] at e2''; cases e2''
     | some z=>rw [q2] at e2''; simp at e2''; rw [e2'']
    obtain ⟨y,c1,c2,c3,c4,c5⟩:=S.cap i j q
    have e1':N'[i]? = some x:=e1
    have exy:y = x:=Option.some.inj (c1.symm.trans e1')
    subst exy
    obtain ⟨m,hm,hl⟩:=I.loc
    obtain ⟨u,r,l⟩:=hl j y v c2 e4 (.inr (.inl c4))
    refine ⟨u,r,?_⟩
    rcases l with ⟨k,_⟩ | ⟨_,c,ec,z⟩
    ·have:X.env.kindOf y = some .cell:=c4
     rw [this] at k; cases k
    ·obtain ⟨c',hc'⟩:=cls_has (env:=X.env) scope.names [] y (.inl c3)
     have:=sub y c' hc'
     rw [ec] at this; cases this
     have z':h1.IsCell c (some u):=by
      obtain ⟨ob,eo,ed⟩:=z
      exact ⟨ob,kp c ob eo,ed⟩
     exact .inr ⟨c5,c,hc',z'⟩
 ·obtain ⟨v,ob,eo,ed⟩:=I.cell x c (sub x c e)
  exact ⟨v,ob,kp c ob eo,ed⟩
 ·have hp':p ∈ X.pn++pins:=by
   have:p ∈ (X.pn++pins)++[]:=hp
   simpa using this
  obtain ⟨a1,a2,a3,a4,a5⟩:=I.pin p hp'
  exact ⟨kp _ _ a1,a2,Nat.ne_of_lt (Heap.lt_size a1),notstk _ a3 a4,a5⟩
 ·show (caps.map _).length = N'.length
  rw [List.length_map,S.len]
end
end L2
set_option maxRecDepth 100000
namespace L2
open PySem PySem.Spec PyProof.Rows Geo PySem.W STab
def PIf (Y:Cx) (ifs:List Expr) (t:TT):Prop :=
 ∀ (pins:List (Addr×Obj)) (s:Shared) (σ:St) (H:Hp) (Q:Bool→Hp→Prop),Inv Y pins σ H s→t σ H Q →
  wpAny (model Y.prog Y.w) Y.A (forIn ifs true fun c r=>if r = true then do let ok ← isTrue c Y.env (eval c Y.env); pure (ForInStep.yield ok) else pure (ForInStep.yield r)) (TP Y pins σ Q) Y.xe s
def tYes:TT:=fun _ H Q=>Q true H
theorem pif_nil {Y:Cx}:PIf Y [] tYes:=fun _ _ _ H _ I h=>wpAny_tests_nil ⟨H,I,h⟩
theorem pif_one {Y:Cx} {c:Expr} {t:TT} (h:PT Y c t):PIf Y [c] t:=fun pins s σ H Q I hq=>wpAny_tests_one (h pins s σ H Q I hq)
def tComp (caps:List (Option Nat)) (wi:TI) (g:TG) (tt:TT) (te:TE):TE:=fun σ H Q=>wi σ H fun J H1=>∀ D,H1 D = none →
 ∃ W:Nat→Nat→St→Hp→Prop,(∃ m,W 0 m (capSt caps σ) (upd H1 D (.lst [])))∧∀ i m σ' H',W i m σ' H' →
  (J.stop i H'∧Q (.ref D) H')∨(J.go i H'∧∃ N:St→Hp→Prop,(∀ σ2 H2,N σ2 H2→∃ m',m' < m∧W (i+1) m' σ2 H2) ∧
   ∀ x H2,J.yld i H' x H2→g x σ' H2 fun σ3 H3=>tt σ3 H3 fun ok H4=>if ok = true then te σ3 H4 fun y H5=>∃ ys,H5 D = some (.lst ys)∧ys.length < sizeLine∧N σ3 (upd H5 D (.lst (ys++[y]))) else N σ3 H4)
section
variable {X:Cx} {scope:Scope} {N':List Str} {caps:List (Option Nat)} {tg iter elt:Expr} {ifs:List Expr} {wi:TI} {g:TG} {tt:TT} {te:TE} {pos:Pos}
theorem comp_core (S:CompScope X scope N' caps) (hc:X.calm = true) (hg:∀ C s3 H3 fp pins,PG (compCx X N' scope C s3 H3 fp pins) tg g) (ht:∀ C s3 H3 fp pins,PIf (compCx X N' scope C s3 H3 fp pins) ifs tt) (he:∀ C s3 H3 fp pins,PE (compCx X N' scope C s3 H3 fp pins) elt te)
  {pins:List (Addr×Obj)} {σ:St} {H:Hp} {s2:Shared} {it:Addr} {fp:List Addr} {tn:Nat→Heap→Prop} {J:It} {Q:VK} {E:Value→Shared→Prop} {RR:Value→Addr→Result→Shared→Prop}
  (I:Inv X pins σ H s2) (T:Turn X.prog X.w X.K tg J fp it tn) (st:tn 0 s2.heap) (hfp:∀ b ∈ fp,FpOk X pins H b)
  (rd:∀ D,H D = none→∃ W:Nat→Nat→St→Hp→Prop,(∃ m,W 0 m (capSt caps σ) (upd H D (.lst [])))∧∀ i m σ' H',W i m σ' H' →
   (J.stop i H'∧Q (.ref D) H')∨(J.go i H'∧∃ N:St→Hp→Prop,(∀ σ2 H2,N σ2 H2→∃ m',m' < m∧W (i+1) m' σ2 H2) ∧
    ∀ x H2,J.yld i H' x H2→g x σ' H2 fun σ3 H3=>tt σ3 H3 fun ok H4=>if ok = true then te σ3 H4 fun y H5=>∃ ys,H5 D = some (.lst ys)∧ys.length < sizeLine∧N σ3 (upd H5 D (.lst (ys++[y]))) else N σ3 H4))
  (fin:∀ D C s' H',Inv X pins σ H' s'→FpOk X pins H' C→(∃ m,s'.heap.Ns C m)→Q (.ref D) H'→RR (.ref D) C (.ok .next) s') :
  wpAny (model X.prog X.w) X.A (newList []) (fun acc s3=>wpAny (model X.prog X.w) X.A (newFunctionEnv scope X.env.globals (cls scope.names X.env []) [] X.env.qual none .none (some X.env)) (fun cenv s4 =>
   codeAny (model X.prog X.w) X.A (.compStart (.ListComp elt [⟨tg,iter,ifs,0⟩] scope pos) 0 (.ref it) acc { cenv with scope:=relabel scope X.env }) (RR acc cenv.locals) s4) E s3) E s2:=by
 have nD:H s2.heap.objs.size = none:=I.hok.fresh (Nat.le_refl _)
 obtain ⟨W,⟨m0,w0⟩,turn⟩:=rd s2.heap.objs.size nD
 have hfl:∀ b ∈ fp,b < s2.heap.objs.size:=fun b hb=>by
  obtain ⟨o,e,_⟩:=T.obj 0 _ st b hb
  exact Heap.lt_size e
 refine wpAny_newObj_type ?_
 have I3:Inv X pins σ (upd H s2.heap.objs.size (.lst [])) { s2 with heap:=s2.heap.push { cls:=.type "list",dict:=none,data:=.seq ([]:List Value).toArray } } :=
  I.laid (t':=s2.toks) (fun b u e=>Heap.get?_push_of_some _ e) (Nat.le_refl _) ⟨Nat.zero_le _,[],0,.nil,Heap.get?_push_size _ rfl⟩
 have ps:(s2.heap.push { cls:=.type "list",dict:=none,data:=.seq ([]:List Value).toArray }).objs.size = s2.heap.objs.size+1:=Heap.size_push ..
 refine wpAny_newFunctionEnv S.nocell (by intro y hy; simp at hy) (fun h1 hns hsb=>?_) S.kind
 dsimp only at hns hsb ⊢
 generalize hH3:s2.heap.push { cls:=.type "list",dict:=none,data:=.seq ([]:List Value).toArray } = G3 at I3 hns hsb ps ⊢
 have kp:∀ b o,G3.get? b = some o→h1.get? b = some o:=fun b o e=>(hsb.2 b (Nat.ne_of_lt (Heap.lt_size e))).trans (Heap.get?_push_of_some _ e)
 have nfp:∀ b ∈ fp,b ≠ s2.heap.objs.size:=fun b hb=>Nat.ne_of_lt (hfl b hb)
 have hfp3:∀ b ∈ fp,FpOk X pins (upd H s2.heap.objs.size (.lst [])) b:=fun b hb=>⟨by rw [upd_ne (nfp b hb)]; exact (hfp b hb).1,(hfp b hb).2⟩
 have I4:=comp_enter (fp:=fp) (tk:=s2.toks+([]:List (Str×Value)).length) S I3 hfp3 (fun b hb=>by show b < G3.objs.size; rw [ps]; exact Nat.lt_succ_of_lt (hfl b hb)) hns kp
 have st4:tn 0 h1:=T.keep _ _ _ st fun b hb o e=>kp b o (by rw [← hH3]; exact Heap.get?_push_of_some _ e)
 have stat:∀ {H':Hp},(∀ b ∈ fp,H' b = none)→∀ b ∈ fp,FpOk (compCx X N' scope G3.objs.size { s2 with heap:=G3 } (upd H s2.heap.objs.size (.lst [])) fp pins) [] H' b:=fun {H'} hn b hb=>by
  obtain ⟨f0,f1,f2,f3,f4,f5⟩:=hfp b hb
  refine ⟨hn b hb,(I4.ok.exf b hb).1,I4.ok.exfs b hb,.inl hb,(I4.ok.exf b hb).2,fun p hp=>?_⟩
  have hp':p ∈ (X.pn++pins)++[]:=hp
  exact f5 p (by simpa using hp')
 have loop:codeAny (model X.prog X.w) X.A (.compLoop (.ListComp elt [⟨tg,iter,ifs,0⟩] scope pos) 0 (.ref it) (.ref s2.heap.objs.size) (compEnvC scope (cls scope.names X.env []) G3.objs.size X.env))
   (RR (.ref s2.heap.objs.size) G3.objs.size) { s2 with heap:=h1,toks:=s2.toks+([]:List (Str×Value)).length }:=by
  refine codeAny_loop rfl (fun n s'=>∃ i σ' H',Inv (compCx X N' scope G3.objs.size { s2 with heap:=G3 } (upd H s2.heap.objs.size (.lst [])) fp pins) [] σ' H' s'∧tn i s'.heap∧(∀ b ∈ fp,H' b = none)∧W i n σ' H') (fun n s5 hI=>?_) m0
   ⟨0,_,_,I4,st4,fun b hb=>(hfp3 b hb).1,w0⟩
  obtain ⟨i,σ5,H5,I5,st5,fr5,w5⟩:=hI
  show wpAny _ X.A ((compTurn (.ListComp elt [⟨tg,iter,ifs,0⟩] scope pos) 0 (.ref it) (.ref s2.heap.objs.size) (compEnvC scope (cls scope.names X.env []) G3.objs.size X.env)).onRaise (fun x=>do noteFrame x (compEnvC scope (cls scope.names X.env []) G3.objs.size X.env); theTreesLotGoes x)) _ _ s5
  refine wpAny_noted ?_
  rw [compTurn_list]
  have nox:∀ {α:Type} {t:Sem α} {R:α→Shared→Prop} {E':Value→Shared→Prop} {s:Shared},wpAny (model X.prog X.w) X.A t R (fun _ _=>False) s→wpAny (model X.prog X.w) X.A t R E' s:=fun h=>wpAny_mono h (fun _ _ x=>x) fun _ _ z=>z.elim
  rcases turn i n σ5 H5 w5 with ⟨stop,qn⟩ | ⟨go,N,hN,step⟩
  ·refine wpAny_bind (wpAny_standAt (wpAny_bind (nox (thn (T.done (compCx X N' scope G3.objs.size { s2 with heap:=G3 } (upd H s2.heap.objs.size (.lst [])) fp pins) rfl rfl rfl hc i [] s5 σ5 H5 _ I5 (stat fr5) st5 stop) fun r s6 ⟨hr,I6⟩=>?_))))
   subst hr
   refine wpAny_pure ?_
   have un:Un (frs X.stack) fp (upd H s2.heap.objs.size (.lst [])) H5 G3 s6.heap:=I6.base
   have I7:Inv X pins σ H5 s6:=I3.call' (ch:=fp) I6.os un I6.hok I6.bare fun b hb=>by
    obtain ⟨_,f1,_,f3,f4,f5⟩:=hfp b hb
    exact ⟨f3,f1,f4,f5⟩
   have fC:FpOk X pins H5 G3.objs.size:=I3.fpOk (Nat.le_refl _) I6.free
   obtain ⟨mC,hmC,_⟩:=I6.loc
   exact fin _ _ s6 H5 I7 fC ⟨mC,hmC⟩ qn
  ·refine wpAny_bind (wpAny_standAt (wpAny_bind (nox (thn (T.item (compCx X N' scope G3.objs.size { s2 with heap:=G3 } (upd H s2.heap.objs.size (.lst [])) fp pins) rfl rfl rfl hc i [] s5 σ5 H5 _ I5 (stat fr5) st5 go) fun r s6 ⟨u,hr,h6⟩=>?_))))
   subst hr
   dsimp only
   refine wpAny_bind (nox (thn h6 fun _ s7 ⟨x,H7,I7,r7,y7,st7,fr7⟩=>?_))
   have I7':=I7.pinned (stat fr7) (T.obj _ _ st7)
   refine wpAny_bind (nox (thn (hg _ _ _ _ _ _ s7 σ5 H7 x u _ I7' r7 (step x H7 y7)) fun _ s8 ⟨σ8,H8,I8,q8⟩=>?_))
   refine wpAny_bind (nox (thn (ht _ _ _ _ _ _ s8 σ8 H8 _ I8 q8) fun ok s9 ⟨H9,I9,q9⟩=>?_))
   have again:∀ {s10:Shared} {H10:Hp},Inv (compCx X N' scope G3.objs.size { s2 with heap:=G3 } (upd H s2.heap.objs.size (.lst [])) fp pins) ([]++pinsAt fp s7.heap) σ8 H10 s10→N σ8 H10 →
     ∃ m,m < n∧∃ i σ' H',Inv (compCx X N' scope G3.objs.size { s2 with heap:=G3 } (upd H s2.heap.objs.size (.lst [])) fp pins) [] σ' H' s10∧tn i s10.heap∧(∀ b ∈ fp,H' b = none)∧W i m σ' H':=fun {s10 H10} J10 n10=>by
    obtain ⟨m',hm,w10⟩:=hN σ8 H10 n10
    refine ⟨m',hm,i+1,σ8,H10,J10.unpinned,T.keep _ _ _ st7 fun b hb o e=>(J10.pin (b,o) (List.mem_append_right _ (List.mem_append_right _ (mem_pinsAt hb e)))).1,fun b hb=>?_,w10⟩
    obtain ⟨o,e,d⟩:=T.obj _ _ st7 b hb
    exact (J10.pin (b,o) (List.mem_append_right _ (List.mem_append_right _ (mem_pinsAt hb e)))).2.1
   cases ok with
   | false =>
    rw [if_neg Bool.false_ne_true] at q9
    exact wpAny_pure ⟨rfl,again I9 q9⟩
   | true =>
    rw [if_pos rfl] at q9
    refine wpAny_bind (wpAny_bind (nox (thn (he _ _ _ _ _ _ s9 σ8 H9 _ I9 q9) fun y s10 ⟨yv,H10,I10,r10,ys,hD,hz,n10⟩=>?_)))
    refine wpAny_bind (nox (thn (mt_append (X:=compCx X N' scope G3.objs.size { s2 with heap:=G3 } (upd H s2.heap.objs.size (.lst [])) fp pins) _ s10 σ8 H10 (.ref s2.heap.objs.size) [yv] (.ref s2.heap.objs.size) [y] (fun _ H'=>H' = upd H10 s2.heap.objs.size (.lst (ys++[yv]))) I10 rfl (.cons r10 .nil)
     ⟨s2.heap.objs.size,ys,yv,rfl,rfl,hD,hz,rfl⟩) fun _ s11 ⟨_,H11,I11,_,e11⟩=>?_))
    subst e11
    exact wpAny_pure (wpAny_pure ⟨rfl,again I11 n10⟩)
 exact codeAny_compStart_list loop (T.self X.A 0 _ _ _ st4 loop)
theorem pe_comp (S:CompScope X scope N' caps) (hc:X.calm = true) (hi:PI X tg iter wi) (hg:∀ C s3 H3 fp pins,PG (compCx X N' scope C s3 H3 fp pins) tg g) (ht:∀ C s3 H3 fp pins,PIf (compCx X N' scope C s3 H3 fp pins) ifs tt) (he:∀ C s3 H3 fp pins,PE (compCx X N' scope C s3 H3 fp pins) elt te)
  (hs:∀ x,foldedSetIterable iter X.env x = pure x:=by intro _; rfl):PE X (.ListComp elt [⟨tg,iter,ifs,0⟩] scope pos) (tComp caps wi g tt te):=by
 intro pins s σ H Q I h
 rw [eval_ListComp]
 refine wpAny_comprehension_free (use:=none) rfl hs (clos_eq (S.cells I.ok)) S.kind S.names (thn (hi pins s σ H _ I h) fun v s1 h1=>thn h1 fun itv s2 h2=>?_)
 obtain ⟨it,fp,tn,J,H2,e,I2,T,st2,f2,rd⟩:=h2
 subst e
 refine comp_core S hc hg ht he I2 T st2 f2 rd fun D C s' H' I' fC hm q=>?_
 obtain ⟨m,hm⟩:=hm
 obtain ⟨f0,f1,_,f3,f4,f5⟩:=fC
 exact ⟨m,hm,fun h' sb=>⟨.ref D,H',I'.turned (t':=s'.toks) (fun b o hb e=>(sb.2 b hb).trans e) f0 f1 f3 f4 f5,rfl,q⟩⟩
theorem ps_setC {i:Nat} {x:Str} {pos' spos:Pos} (hN:X.N.Nodup) (hi':X.N[i]? = some x) (hx:X.env.scope.names.lookup x = some .local) (S:CompScope X scope N' caps) (hc:X.calm = true) (hi:PI X tg iter wi) (hg:∀ C s3 H3 fp pins,PG (compCx X N' scope C s3 H3 fp pins) tg g)
  (ht:∀ C s3 H3 fp pins,PIf (compCx X N' scope C s3 H3 fp pins) ifs tt) (he:∀ C s3 H3 fp pins,PE (compCx X N' scope C s3 H3 fp pins) elt te) (hsw:swapsWith (.ListComp elt [⟨tg,iter,ifs,0⟩] scope pos) (some (.Name x pos')) spos.line X.env = pure true)
  (hs:∀ x,foldedSetIterable iter X.env x = pure x:=by intro _; rfl):PS X (.Assign [.Name x pos'] (.ListComp elt [⟨tg,iter,ifs,0⟩] scope pos) spos) (tAsg (tComp caps wi g tt te) (gName i)):=by
 intro pins s σ H D I h
 rw [exec_Assign_Name_used _ _ _ _ hsw]
 refine wpAny_bind (wpAny_standAt (wpAny_bind ?_))
 show wpAny _ X.A (comprehension (.ListComp elt [⟨tg,iter,ifs,0⟩] scope pos) scope X.env _ (newList []) false (eval iter X.env) (some (assign (.Name x pos') X.env)) >>= fun _=>pure ()) _ _ s
 refine wpAny_bind (thn (Q:=fun _ s'=>SP X pins D .next s') (wpAny_comprehension_free (use:=some (assign (.Name x pos') X.env)) rfl hs (clos_eq (S.cells I.ok)) S.kind S.names
  (thn (hi pins s σ H _ I h) fun v s1 h1=>thn h1 fun itv s2 h2=>?_)) fun _ s' hq=>wpAny_pure (wpAny_pure hq))
 obtain ⟨it,fp,tn,J,H2,e,I2,T,st2,f2,rd⟩:=h2
 subst e
 refine comp_core (Q:=fun x H1=>gName i x σ H1 D.nx) (RR:=fun acc C=>compPost (model X.prog X.w) X.A X.xe (some (assign (.Name x pos') X.env)) (fun _ s'=>SP X pins D .next s') acc C) S hc hg ht he I2 T st2 f2 rd fun D' C s' H' I' fC hm q=>?_
 obtain ⟨m,hm⟩:=hm
 obtain ⟨f0,f1,f2',f3,f4,f5⟩:=fC
 show wpAny _ X.A (assign (.Name x pos') X.env (.ref D')) _ _ _
 refine wpAny_assign_Name (store_ok2 I' hN hi' (.inl hx) (v:=.ref D') (u:=.ref D') rfl (fun s'' I'' ⟨a,sb,ha⟩=>?_) (.inr hx))
 have nC:C ≠ a:=by
  rcases ha with z | z
  ·rw [z]; exact f1
  ·exact fun q=>f4 x a z q.symm
 refine ⟨m,hm.sameBut sb nC,fun h' sb'=>?_⟩
 exact ⟨_,H',I''.turned (t':=s''.toks) (fun b o hb e=>(sb'.2 b hb).trans e) f0 f1 f3 f4 f5,q⟩
end
end L2
set_option maxRecDepth 100000
namespace L2
open PySem Geo
theorem Same.keep {H H':Hp} (h:Same H H'):Keep H H':=fun a xs e=>h a _ e
theorem same_upd {H H':Hp} {r:Addr} {o:HO} (h:Same H H') (n:H r = none):Same H (upd H' r o):=fun b u e=>by rw [upd_ne (ne_of_none e n)]; exact h b u e
theorem atI_m1 {α:Type} {xs:List α} {v:α} (h:xs[xs.length - 1]? = some v):atI xs (-1) = some v:=by
 have hl:0 < xs.length:=by have:=(List.getElem?_eq_some_iff.mp h).1; omega
 have e:ixN xs.length (-1) = some (xs.length - 1):=by
  unfold ixN
  rw [if_neg (by decide),if_pos (by omega)]
  congr 1; omega
 unfold atI; rw [e]; exact h
theorem atI_m2 {α:Type} {xs:List α} {v:α} (h:xs[xs.length - 2]? = some v) (h2:2≤xs.length):atI xs (-2) = some v:=by
 have e:ixN xs.length (-2) = some (xs.length - 2):=by
  unfold ixN
  rw [if_neg (by decide),if_pos (by omega)]
  congr 1; omega
 unfold atI; rw [e]; exact h
theorem mulOk (i j:Int) (h1:-3000≤i) (h2:i≤3000):CMul i j:=.inl ⟨Int.lt_of_lt_of_le (by decide) h1,Int.lt_of_le_of_lt h2 (by decide)⟩
theorem mulW (a b:Int) (j:Int) (h1:-4611686018427387904≤a) (h2:a≤4611686018427387904) (h3:-4611686018427387904≤b) (h4:b≤4611686018427387904):CMul (b - a) j:=by
 left; constructor <;> omega
theorem IsPt.same {H H':Hp} {v:V} {p:Pt} (h:IsPt H v p) (s:Same H H'):IsPt H' v p:=IsPt.keep h (Same.keep s)
theorem comp_list {K:PySem.W.Frag} {a D:Addr} {xs:List V} {g:TG} {tt:TT} {te:TE} {R:Hp→Prop} {σ0:St} {H:Hp} (Pv:Nat→St→Hp→Prop) (h0:Pv 0 σ0 H) (hl:∀ i σ H,i≤xs.length→Pv i σ H→SqL K H a xs)
  (hs:∀ i x σ H,xs[i]? = some x→Pv i σ H→g x σ H fun σ3 H3=>tt σ3 H3 fun ok H4=>if ok = true then te σ3 H4 fun y H5=>∃ ys,H5 D = some (.lst ys)∧ys.length < sizeLine∧Pv (i+1) σ3 (upd H5 D (.lst (ys++[y]))) else Pv (i+1) σ3 H4)
  (hd:∀ σ H,Pv xs.length σ H→R H) :
  ∃ W:Nat→Nat→St→Hp→Prop,(∃ m,W 0 m σ0 H)∧∀ i m σ' H',W i m σ' H' →
   ((Itl K a).stop i H'∧R H')∨((Itl K a).go i H'∧∃ N:St→Hp→Prop,(∀ σ2 H2,N σ2 H2→∃ m',m' < m∧W (i+1) m' σ2 H2) ∧
    ∀ x H2,(Itl K a).yld i H' x H2→g x σ' H2 fun σ3 H3=>tt σ3 H3 fun ok H4=>if ok = true then te σ3 H4 fun y H5=>∃ ys,H5 D = some (.lst ys)∧ys.length < sizeLine∧N σ3 (upd H5 D (.lst (ys++[y]))) else N σ3 H4):=by
 refine ⟨fun i m σ H=>m = xs.length - i∧i≤xs.length∧Pv i σ H,⟨xs.length,by simp,Nat.zero_le _,h0⟩,?_⟩
 rintro i m σ H ⟨rfl,hi,p⟩
 have q:=hl i σ H hi p
 by_cases hlt:i < xs.length
 ·refine .inr ⟨⟨xs,xs[i],q,by simp [hlt]⟩,Pv (i+1),fun σ' H' p'=>⟨xs.length - (i+1),by omega,rfl,hlt,p'⟩,fun x H' y=>?_⟩
  obtain ⟨e,y⟩:=y
  subst e
  exact hs i x σ _ (y xs q) p
 ·have e:i = xs.length:=by omega
  subst e
  exact .inl ⟨⟨xs,q,Nat.le_refl _⟩,hd σ H p⟩
theorem comp_tup {K:PySem.W.Frag} {a D:Addr} {xs:List V} {g:TG} {tt:TT} {te:TE} {R:Hp→Prop} {σ0:St} {H:Hp} (Pv:Nat→St→Hp→Prop) (h0:Pv 0 σ0 H) (hl:∀ i σ H,i≤xs.length→Pv i σ H→SqT K H a xs)
  (hs:∀ i x σ H,xs[i]? = some x→Pv i σ H→g x σ H fun σ3 H3=>tt σ3 H3 fun ok H4=>if ok = true then te σ3 H4 fun y H5=>∃ ys,H5 D = some (.lst ys)∧ys.length < sizeLine∧Pv (i+1) σ3 (upd H5 D (.lst (ys++[y]))) else Pv (i+1) σ3 H4)
  (hd:∀ σ H,Pv xs.length σ H→R H) :
  ∃ W:Nat→Nat→St→Hp→Prop,(∃ m,W 0 m σ0 H)∧∀ i m σ' H',W i m σ' H' →
   ((Itt K a).stop i H'∧R H')∨((Itt K a).go i H'∧∃ N:St→Hp→Prop,(∀ σ2 H2,N σ2 H2→∃ m',m' < m∧W (i+1) m' σ2 H2) ∧
    ∀ x H2,(Itt K a).yld i H' x H2→g x σ' H2 fun σ3 H3=>tt σ3 H3 fun ok H4=>if ok = true then te σ3 H4 fun y H5=>∃ ys,H5 D = some (.lst ys)∧ys.length < sizeLine∧N σ3 (upd H5 D (.lst (ys++[y]))) else N σ3 H4):=by
 refine ⟨fun i m σ H=>m = xs.length - i∧i≤xs.length∧Pv i σ H,⟨xs.length,by simp,Nat.zero_le _,h0⟩,?_⟩
 rintro i m σ H ⟨rfl,hi,p⟩
 have q:=hl i σ H hi p
 by_cases hlt:i < xs.length
 ·refine .inr ⟨⟨xs,xs[i],q,by simp [hlt]⟩,Pv (i+1),fun σ' H' p'=>⟨xs.length - (i+1),by omega,rfl,hlt,p'⟩,fun x H' y=>?_⟩
  obtain ⟨e,y⟩:=y
  subst e
  exact hs i x σ _ (y xs q) p
 ·have e:i = xs.length:=by omega
  subst e
  exact .inl ⟨⟨xs,q,Nat.le_refl _⟩,hd σ H p⟩
def ifBody:Stmt→List Stmt
 | .If _ b _ _=>b
 | _=>[]
def asgVal:Stmt→Expr
 | .Assign _ v _=>v
 | _=>.Constant .none 0 ⟨0,0,0,0⟩
def lcScope (d:Scope):Expr→Scope
 | .ListComp _ _ s _=>s
 | _=>d
def nth (l:List Stmt) (i:Nat):Stmt:=l.getD i (.Pass ⟨0,0,0,0⟩)
theorem ixt {X:Cx} {K':PySem.W.Frag} (h:X.K = K'):IxR X (rIxT K'):=h ▸ ix_tup
theorem ixl {X:Cx} {K':PySem.W.Frag} (h:X.K = K'):IxR X (rIxL K'):=h ▸ ix_list
end L2
set_option maxRecDepth 100000
namespace L2
open PySem PySem.Spec PyProof.Rows Geo
section
variable {X:Cx} {pins:List (Addr×Obj)} {σ:St} {H:Hp} {s:Shared} {h':Heap}
theorem Inv.turnedNew {ch:List Addr} {T:Addr} {o:HO} {t':Nat} (I:Inv X pins σ H s) (k:∀ b u,b ∉ ch→s.heap.get? b = some u→h'.get? b = some u) (hf:∀ b ∈ ch,FpOk X pins H b) (hT:s.heap.objs.size≤T)
  (new:ObjOk X.prog X.w (upd H T o) h' T o):Inv X pins σ (upd H T o) { s with heap:=h',toks:=t' }:=by
 have nT:H T = none:=I.hok.fresh hT
 have neT:∀ b u,H b = some u→b ≠ T:=fun b u e=>ne_of_none e nT
 have nch:∀ b u,H b = some u→b ∉ ch:=fun b u e hb=>by
  have:=(hf b hb).1
  rw [e] at this; cases this
 refine I.step (g':=s.gens) (d':=s.drawn) (ch:=ch) (fun b hb=>?_) (fun b o _ _ hc e _=>k b o hc e) (fun b o _ _ hc e _=>⟨o.slots,k b o hc e⟩) (fun b o _ e n=>?_) (fun b o hc e=>⟨o,k b o hc e⟩)
  (fun b xs e=>by rw [upd_ne (neT b _ e)]; exact e) (fun b ob u e=>by rw [upd_ne (neT b _ e)]; exact e) (fun b ps e=>⟨#[],by rw [upd_ne (neT b _ e),e]; simp⟩) (fun m hm=>?_) (fun b u e=>?_) I.bare
 ·obtain ⟨f0,f1,f2,f3,f4,f5⟩:=hf b hb
  exact ⟨f3,f1,f4,f5⟩
 ·have:b ≠ T:=Nat.ne_of_lt (Nat.lt_of_lt_of_le (Heap.lt_size e) hT)
  rw [upd_ne this]; exact n
 ·obtain ⟨o,es,ep,ho,r⟩:=hm
  exact ⟨o,es,ep,k _ o (fun hb=>(hf _ hb).2.1 rfl) ho,r⟩
 ·by_cases hb:b = T
  ·subst hb; rw [upd_same] at e; cases e; exact new
  ·rw [upd_ne hb] at e
   refine (I.hok b u e).stay (fun c v hc q=>k c v ?_ q) (fun c q=>by rw [upd_ne (neT c _ q)]; exact q) fun c xs q=>by rw [upd_ne (neT c _ q)]; exact q
   rcases hc with z | z
   ·rw [z]; exact nch b u e
   ·exact nch c _ z
theorem Inv.turnedL {ch:List Addr} {t':Nat} (I:Inv X pins σ H s) (k:∀ b u,b ∉ ch→s.heap.get? b = some u→h'.get? b = some u) (hf:∀ b ∈ ch,FpOk X pins H b):Inv X pins σ H { s with heap:=h',toks:=t' }:=by
 have nch:∀ b u,H b = some u→b ∉ ch:=fun b u e hb=>by
  have:=(hf b hb).1
  rw [e] at this; cases this
 refine I.step (g':=s.gens) (d':=s.drawn) (ch:=ch) (fun b hb=>?_) (fun b o _ _ hc e _=>k b o hc e) (fun b o _ _ hc e _=>⟨o.slots,k b o hc e⟩) (fun _ _ _ _ n=>n) (fun b o hc e=>⟨o,k b o hc e⟩)
  (fun _ _ e=>e) (fun _ _ _ e=>e) (fun b ps e=>⟨#[],by rw [e]; simp⟩) (fun m hm=>?_) (fun b u e=>?_) I.bare
 ·obtain ⟨f0,f1,f2,f3,f4,f5⟩:=hf b hb
  exact ⟨f3,f1,f4,f5⟩
 ·obtain ⟨o,es,ep,ho,r⟩:=hm
  exact ⟨o,es,ep,k _ o (fun hb=>(hf _ hb).2.1 rfl) ho,r⟩
 ·refine (I.hok b u e).stay (fun c v hc q=>k c v ?_ q) (fun _ q=>q) fun _ _ q=>q
  rcases hc with z | z
  ·rw [z]; exact nch b u e
  ·exact nch c _ z
end
def Itz (K:PySem.W.Frag) (l1 l2:Addr):It :=
  ⟨fun i H=>∃ xs ys x y,SqL K H l1 xs∧SqL K H l2 ys∧xs[i]? = some x∧ys[i]? = some y,
   fun i H v H'=>∃ T,v = .ref T∧H T = none∧∀ xs ys,SqL K H l1 xs→SqL K H l2 ys→∃ x y,xs[i]? = some x∧ys[i]? = some y∧H' = upd H T (.tup [x,y]),
   fun i H=>∃ xs ys,SqL K H l1 xs∧SqL K H l2 ys∧(xs.length≤i∨ys.length≤i)⟩
theorem turn_zip {P:Program} {w:World} {K:PySem.W.Frag} {elts:List Expr} {kt:Nat} {pt:Pos} {z TI TO i1 i2 l1 l2:Addr} (D:ZipApart z TI TO i1 i2 l1 l2) :
  Turn P w K (.Tuple elts kt pt) (Itz K l1 l2) [z,TI,TO,i1,i2] z (fun i h=>IsZip h z TI TO .none∧IsPair h TI (.ref i1) (.ref i2)∧(∃ a b,IsPair h TO a b)∧h.IsListIter i1 l1 i∧h.IsListIter i2 l2 i) where
 mem:=by simp
 obj:=fun i h st b hb=>by
  obtain ⟨hz,hTI,⟨a,b',hTO⟩,⟨o1,e1,c1,d1⟩,⟨o2,e2,c2,d2⟩⟩:=st
  simp only [List.mem_cons,List.not_mem_nil,or_false] at hb
  rcases hb with rfl | rfl | rfl | rfl | rfl
  ·exact ⟨_,hz,fun v e=>by have e':Data.fields _ = Data.cell v:=e; cases e'⟩
  ·exact ⟨_,hTI,fun v e=>by have e':Data.seq _ _ = Data.cell v:=e; cases e'⟩
  ·exact ⟨_,hTO,fun v e=>by have e':Data.seq _ _ = Data.cell v:=e; cases e'⟩
  ·exact ⟨o1,e1,fun v e=>by rw [d1] at e; cases e⟩
  ·exact ⟨o2,e2,fun v e=>by rw [d2] at e; cases e⟩
 keep:=fun i h h' st k=>by
  obtain ⟨hz,hTI,⟨a,b,hTO⟩,h1,h2⟩:=st
  exact ⟨k z (by simp) _ hz,k TI (by simp) _ hTI,⟨a,b,k TO (by simp) _ hTO⟩,h1.at fun o e=>k i1 (by simp) o e,h2.at fun o e=>k i2 (by simp) o e⟩
 item:=by
  intro X hP hw hK hc i pins s σ H E I hf st hg
  subst hP hw hK
  obtain ⟨xs,ys,x,y,q1,q2,hx,hy⟩:=hg
  obtain ⟨its1,rv1,p1,_⟩:=I.list q1
  obtain ⟨its2,rv2,p2,_⟩:=I.list q2
  obtain ⟨u1,hu1,ru1⟩:=rv1.get hx
  obtain ⟨u2,hu2,ru2⟩:=rv2.get hy
  obtain ⟨hz,hTI,⟨a,b,hTO⟩,h1,h2⟩:=st
  have l1':i1 < s.heap.objs.size:=by obtain ⟨_,e,_⟩:=h1; exact Heap.lt_size e
  have l2':i2 < s.heap.objs.size:=by obtain ⟨_,e,_⟩:=h2; exact Heap.lt_size e
  refine wpAny_pyNext_zip_item D hz hTI hTO h1 h2 p1.isList p2.isList (x:=u1) (y:=u2) (by simpa using hu1) (by simpa using hu2) fun h' a1 a2 a3 a4 a5 a6 hk=>?_
  refine ⟨.ref s.heap.objs.size,rfl,?_⟩
  refine wpAny_letOwnedTupleGo_zip (s:={ s with heap:=h' }) a1 fun h'' hz' hs'=>?_
  have kk:∀ b u,b ∉ [z,TO,i1,i2]→s.heap.get? b = some u→h''.get? b = some u:=fun b u hb e=>by
   simp only [List.mem_cons,List.not_mem_nil,or_false,not_or] at hb
   exact hs'.extBut _ _ hb.1 (hk b u hb.1 hb.2.1 hb.2.2.1 hb.2.2.2 e)
  have Tz:s.heap.objs.size ≠ z:=Nat.ne_of_gt (Heap.lt_size hz)
  have tup:h''.get? s.heap.objs.size = some { cls:=.type "tuple",data:=.seq #[u1,u2] }:=hs'.extBut _ _ Tz a5
  have I1:Inv X pins σ (upd H s.heap.objs.size (.tup [x,y])) { s with heap:=h'' }:=I.turnedNew (t':=s.toks) (ch:=[z,TO,i1,i2]) kk (fun b hb=>hf b (by
   simp only [List.mem_cons,List.not_mem_nil,or_false] at hb ⊢
   rcases hb with e | e | e | e <;> simp [e])) (Nat.le_refl _) ⟨by show 2≤sizeLine; decide,[u1,u2],.cons ru1 (.cons ru2 .nil),⟨_,tup,rfl,_,rfl⟩⟩
  refine ⟨.ref s.heap.objs.size,_,I1,rfl,⟨s.heap.objs.size,rfl,I.hok.fresh (Nat.le_refl _),fun xs' ys' e1 e2=>⟨x,y,?_,?_,rfl⟩⟩,
   ⟨hz',hs'.extBut _ _ D.TIz (hk _ _ D.TIz D.TITO D.TIi1 D.TIi2 hTI),⟨_,_,hs'.extBut _ _ D.TOz a2⟩,a3.extBut hs'.extBut D.i1z,a4.extBut hs'.extBut D.i2z⟩,fun b hb=>?_⟩
  ·rw [I.list_inj e1 q1]; exact hx
  ·rw [I.list_inj e2 q2]; exact hy
  ·have lb:b < s.heap.objs.size:=by
    simp only [List.mem_cons,List.not_mem_nil,or_false] at hb
    rcases hb with rfl | rfl | rfl | rfl | rfl
    ·exact Heap.lt_size hz
    ·exact Heap.lt_size hTI
    ·exact Heap.lt_size hTO
    ·exact l1'
    ·exact l2'
   rw [upd_ne (Nat.ne_of_lt lb)]
   exact (hf b hb).1
 done:=by
  intro X hP hw hK hc i pins s σ H E I hf st hg
  subst hP hw hK
  obtain ⟨xs,ys,q1,q2,hl⟩:=hg
  obtain ⟨its1,rv1,p1,_⟩:=I.list q1
  obtain ⟨its2,rv2,p2,_⟩:=I.list q2
  obtain ⟨hz,hTI,⟨a,b,hTO⟩,h1,h2⟩:=st
  have e1:=rv1.length
  have e2:=rv2.length
  refine wpAny_pyNext_zip_end (I.ok.hd hc) D hz hTI hTO h1 h2 p1.isList p2.isList (hl.imp (fun z=>by simp; omega) (fun z=>by simp; omega)) fun h' hk=>⟨rfl,?_⟩
  refine I.turnedL (t':=s.toks) (ch:=[z,TO,i1,i2]) (fun b u hb e=>?_) (fun b hb=>hf b (by
   simp only [List.mem_cons,List.not_mem_nil,or_false] at hb ⊢
   rcases hb with e | e | e | e <;> simp [e]))
  simp only [List.mem_cons,List.not_mem_nil,or_false,not_or] at hb
  exact hk b u hb.1 hb.2.1 hb.2.2.1 hb.2.2.2 e
 self:=fun _ _ _ _ _ st h=>wpAny_pyIter_zip st.1 h
def iZip (K:PySem.W.Frag) (ta:TA):TI:=fun σ H R=>ta σ H fun vs H1=>∃ a b,vs = [.ref a,.ref b]∧(∃ xs,SqL K H1 a xs)∧(∃ ys,SqL K H1 b ys)∧R (Itz K a b) H1
theorem boot_zip':bootBuiltins "zip" = some (.type "zip"):=by decide +kernel
theorem pi_zip {X:Cx} {a b:Expr} {ta:TA} {p pos:Pos} {elts:List Expr} {kt:Nat} {pt:Pos} (hg:Gl X "zip") (hm:X.mg "zip" = none) (ha:PA X [a,b] ta) (hs:starEach [a,b] X.env = [(false,eval a X.env),(false,eval b X.env)]:=by rfl) (hs2:starEach [b] X.env = [(false,eval b X.env)]:=by rfl) :
  PI X (.Tuple elts kt pt) (.Call (.Name "zip" p) [a,b] [] pos) (iZip X.K ta):=by
 intro pins s σ H R I h
 refine Call_ (ld_blt I hg hm boot_zip' (PyProof.Rows.callWith_type1 (thn (ha pos pins s σ H _ I h) fun us s1 ⟨vs,H1,I1,r1,q1⟩=>?_) (by rw [hs,hs2]) (by rw [hs2]; rfl)))
 obtain ⟨l1,l2,e,⟨xs,q1⟩,⟨ys,q2⟩,q⟩:=q1
 subst e
 cases r1 with
 | cons r rr =>
  cases rr with
  | cons r' rr =>
   cases rr
   cases r
   cases r'
   obtain ⟨its1,rv1,p1,_⟩:=I1.list q1
   obtain ⟨its2,rv2,p2,_⟩:=I1.list q2
   have a1:l1 < s1.heap.objs.size:=by obtain ⟨_,e,_⟩:=p1.isList; exact Heap.lt_size e
   have a2:l2 < s1.heap.objs.size:=by obtain ⟨_,e,_⟩:=p2.isList; exact Heap.lt_size e
   refine call_zip_2 p1.isList p2.isList fun h' hz hTI hTO hi1 hi2 hsz hk=>wpAny_pyIter_zip hz ?_
   refine ⟨_,[s1.heap.objs.size+4,s1.heap.objs.size+2,s1.heap.objs.size+3,s1.heap.objs.size,s1.heap.objs.size+1],_,_,H1,rfl,I1.kept (t':=s1.toks) hk,turn_zip (zipApart_new a1 a2),⟨hz,hTI,⟨_,_,hTO⟩,hi1,hi2⟩,fun b hb=>?_,q⟩
   have hb':s1.heap.objs.size≤b:=by
    simp only [List.mem_cons,List.not_mem_nil,or_false] at hb
    rcases hb with rfl | rfl | rfl | rfl | rfl <;> omega
   have J:=I1.kept (t':=s1.toks) (h':=s1.heap) fun b u e=>e
   exact I1.fpOk hb' (I1.hok.fresh hb')
theorem comp_zip {K:PySem.W.Frag} {a b D:Addr} {xs ys:List V} {g:TG} {tt:TT} {te:TE} {R:Hp→Prop} {σ0:St} {H:Hp} (Pv:Nat→St→Hp→Prop) (h0:Pv 0 σ0 H) (hn:xs.length = ys.length) (hl:∀ i σ H,i≤xs.length→Pv i σ H→SqL K H a xs∧SqL K H b ys)
  (hs:∀ i x y T σ H,xs[i]? = some x→ys[i]? = some y→Pv i σ H→H T = none→g (.ref T) σ (upd H T (.tup [x,y])) fun σ3 H3=>tt σ3 H3 fun ok H4=>if ok = true then te σ3 H4 fun y H5=>∃ ys,H5 D = some (.lst ys)∧ys.length < sizeLine∧Pv (i+1) σ3 (upd H5 D (.lst (ys++[y]))) else Pv (i+1) σ3 H4)
  (hd:∀ σ H,Pv xs.length σ H→R H) :
  ∃ W:Nat→Nat→St→Hp→Prop,(∃ m,W 0 m σ0 H)∧∀ i m σ' H',W i m σ' H' →
   ((Itz K a b).stop i H'∧R H')∨((Itz K a b).go i H'∧∃ N:St→Hp→Prop,(∀ σ2 H2,N σ2 H2→∃ m',m' < m∧W (i+1) m' σ2 H2) ∧
    ∀ x H2,(Itz K a b).yld i H' x H2→g x σ' H2 fun σ3 H3=>tt σ3 H3 fun ok H4=>if ok = true then te σ3 H4 fun y H5=>∃ ys,H5 D = some (.lst ys)∧ys.length < sizeLine∧N σ3 (upd H5 D (.lst (ys++[y]))) else N σ3 H4):=by
 refine ⟨fun i m σ H=>m = xs.length - i∧i≤xs.length∧Pv i σ H,⟨xs.length,by simp,Nat.zero_le _,h0⟩,?_⟩
 rintro i m σ H ⟨rfl,hi,p⟩
 obtain ⟨q1,q2⟩:=hl i σ H hi p
 by_cases hlt:i < xs.length
 ·refine .inr ⟨⟨xs,ys,xs[i],ys[i],q1,q2,by simp [hlt],by simp [hn ▸ hlt]⟩,Pv (i+1),fun σ' H' p'=>⟨xs.length - (i+1),by omega,rfl,hlt,p'⟩,fun x H' y=>?_⟩
  obtain ⟨T,rfl,nT,hy⟩:=y
  obtain ⟨x',y',e1,e2,rfl⟩:=hy xs ys q1 q2
  exact hs i x' y' T σ _ e1 e2 p nT
 ·have e:i = xs.length:=by omega
  subst e
  exact .inl ⟨⟨xs,ys,q1,q2,.inl (Nat.le_refl _)⟩,hd σ H p⟩
theorem comp_range {lo:Int} {n:Nat} {D:Addr} {g:TG} {tt:TT} {te:TE} {R:Hp→Prop} {σ0:St} {H:Hp} (Pv:Nat→St→Hp→Prop) (h0:Pv 0 σ0 H)
  (hs:∀ i σ H,i < n→Pv i σ H→g (.int (lo+i)) σ H fun σ3 H3=>tt σ3 H3 fun ok H4=>if ok = true then te σ3 H4 fun y H5=>∃ ys,H5 D = some (.lst ys)∧ys.length < sizeLine∧Pv (i+1) σ3 (upd H5 D (.lst (ys++[y]))) else Pv (i+1) σ3 H4)
  (hd:∀ σ H,Pv n σ H→R H) :
  ∃ W:Nat→Nat→St→Hp→Prop,(∃ m,W 0 m σ0 H)∧∀ i m σ' H',W i m σ' H' →
   ((Itr lo n).stop i H'∧R H')∨((Itr lo n).go i H'∧∃ N:St→Hp→Prop,(∀ σ2 H2,N σ2 H2→∃ m',m' < m∧W (i+1) m' σ2 H2) ∧
    ∀ x H2,(Itr lo n).yld i H' x H2→g x σ' H2 fun σ3 H3=>tt σ3 H3 fun ok H4=>if ok = true then te σ3 H4 fun y H5=>∃ ys,H5 D = some (.lst ys)∧ys.length < sizeLine∧N σ3 (upd H5 D (.lst (ys++[y]))) else N σ3 H4):=by
 refine ⟨fun i m σ H=>m = n - i∧i≤n∧Pv i σ H,⟨n,by simp,Nat.zero_le _,h0⟩,?_⟩
 rintro i m σ H ⟨rfl,hi,p⟩
 by_cases hlt:i < n
 ·refine .inr ⟨hlt,Pv (i+1),fun σ' H' p'=>⟨n - (i+1),by omega,rfl,hlt,p'⟩,fun x H' y=>?_⟩
  obtain ⟨e,y⟩:=y
  subst e y
  exact hs i σ _ hlt p
 ·have e:i = n:=by omega
  subst e
  exact .inl ⟨Nat.le_refl _,hd σ H p⟩
end L2
set_option maxRecDepth 100000
namespace L2
open PySem PySem.Spec PyProof.Rows Geo
def IsTri (H:Hp) (v:V) (t:Tri):Prop:=∃ a,v = .ref a∧H a = some (.tup [.int t.1,.int t.2.1,.int t.2.2])
abbrev AreTri (H:Hp):List V→List Tri→Prop:=Paired (IsTri H)
theorem IsTri.keep {H H':Hp} {v:V} {p:Tri} (h:IsTri H v p) (k:Keep H H'):IsTri H' v p:=by
 obtain ⟨a,e,h⟩:=h; exact ⟨a,e,k _ _ h⟩
theorem IsTri.same {H H':Hp} {v:V} {p:Tri} (h:IsTri H v p) (k:Same H H'):IsTri H' v p:=h.keep k.keep
theorem AreTri.keep {H H':Hp} {vs:List V} {ps:List Tri} (h:AreTri H vs ps) (k:Keep H H'):AreTri H' vs ps:=Paired.mapP h fun _ _ z=>z.keep k
theorem AreTri.same {H H':Hp} {vs:List V} {ps:List Tri} (h:AreTri H vs ps) (k:Same H H'):AreTri H' vs ps:=h.keep k.keep
theorem ArePts.same {H H':Hp} {vs:List V} {ps:List Pt} (h:ArePts H vs ps) (k:Same H H'):ArePts H' vs ps:=ArePts.keep h k.keep
def IsSh (H:Hp) (v:V) (e:Pt×Int):Prop:=∃ a c,v = .ref a∧H a = some (.tup [c,.int e.2])∧IsPt H c e.1
abbrev AreSh (H:Hp):List V→List (Pt×Int)→Prop:=Paired (IsSh H)
theorem IsSh.keep {H H':Hp} {v:V} {p:Pt×Int} (h:IsSh H v p) (k:Keep H H'):IsSh H' v p:=by
 obtain ⟨a,c,e,h,h2⟩:=h; exact ⟨a,c,e,k _ _ h,h2.keep k⟩
theorem AreSh.same {H H':Hp} {vs:List V} {ps:List (Pt×Int)} (h:AreSh H vs ps) (k:Same H H'):AreSh H' vs ps:=Paired.mapP h fun _ _ z=>z.keep k.keep
theorem mulR (i j:Int) (h1:-4611686018427387904≤j) (h2:j≤4611686018427387904):CMul i j:=by
 right; constructor <;> omega
theorem mulL (i j:Int) (h1:-4611686018427387904≤i) (h2:i≤4611686018427387904):CMul i j:=by
 left; constructor <;> omega
theorem cut_one (xs:List V):cutV xs none (some 1) = xs.take 1:=by
 unfold cutV
 rw [show HT.sIx xs.length 0 none = 0 from rfl,List.drop_zero,Nat.sub_zero]
 have:HT.sIx xs.length xs.length (some 1) = min 1 xs.length:=rfl
 rw [this]
 cases xs with
 | nil=>rfl
 | cons a r=>simp
theorem cut_tail (xs:List V):cutV xs (some 1) none = xs.drop 1:=by
 unfold cutV
 have:HT.sIx xs.length 0 (some 1) = min 1 xs.length:=rfl
 rw [show HT.sIx xs.length xs.length none = xs.length from rfl,this]
 cases xs with
 | nil=>rfl
 | cons a r=>simp
theorem Paired.of_map {α β:Type} {F:α→β→Prop}:∀ {xs:List α} {ys:List β},xs.length = ys.length→(∀ (i:Nat) x y,xs[i]? = some x→ys[i]? = some y→F x y)→Paired F xs ys
 | [],[],_,_=>.nil
 | x :: xs,y :: ys,e,h=>.cons (h 0 x y rfl rfl) (Paired.of_map (by simpa using e) fun i a b ha hb=>h (i+1) a b (by simpa using ha) (by simpa using hb))
end L2
namespace L2
open PySem
theorem pgt {X:Cx} {K':PySem.W.Frag} {e:Expr} {n:Nat} {t:TGs} (h:X.K = K') (hp:PG X e (gTup X.K n t)):PG X e (gTup K' n t):=h ▸ hp
theorem take_snoc {α:Type} {l:List α} {i:Nat} {x:α} (h:l[i]? = some x):l.take (i+1) = l.take i++[x]:=by rw [List.take_add_one,h]; rfl
end L2
set_option maxRecDepth 100000
set_option linter.all false
namespace L2
open PySem PySem.Spec PyProof.Rows
section
variable {κ:Type} [DecidableEq κ]
def valV (kvs:List (κ×V)) (k:κ):Option V:=(kvs.find? fun kv=>decide (kv.1 = k)).map (·.2)
def putK (kvs:List (κ×V)) (k:κ) (v:V):List (κ×V) :=
 if (kvs.any fun kv=>decide (kv.1 = k)) = true then kvs.map (fun kv=>if kv.1 = k then (kv.1,v) else kv) else kvs++[(k,v)]
def dropK (kvs:List (κ×V)) (k:κ):List (κ×V):=kvs.filter fun kv=>decide (kv.1 ≠ k)
theorem valV_pos {p:κ×V} {r:List (κ×V)} {k:κ} (e:p.1 = k):valV (p :: r) k = some p.2:=by simp [valV,List.find?_cons,e]
theorem valV_neg {p:κ×V} {r:List (κ×V)} {k:κ} (e:¬ p.1 = k):valV (p :: r) k = valV r k:=by simp [valV,List.find?_cons,e]
theorem valV_any (k:κ):∀ kvs:List (κ×V),(kvs.any fun kv=>decide (kv.1 = k)) = (valV kvs k).isSome
 | []=>rfl
 | p :: r=>by
  rw [List.any_cons]
  by_cases e:p.1 = k
  ·simp only [valV_pos e,decide_eq_true e,Bool.true_or,Option.isSome_some]
  ·rw [valV_neg e,decide_eq_false e,Bool.false_or]; exact valV_any k r
theorem length_putK (kvs:List (κ×V)) (k:κ) (v:V):(putK kvs k v).length≤kvs.length+1:=by
 unfold putK
 split
 ·rw [List.length_map]; omega
 ·rw [List.length_append,List.length_cons,List.length_nil]; omega
theorem RelO.isSome_eq {o:Option V} {u:Option Value} (r:RelO o u):o.isSome = u.isSome:=by
 cases o with
 | none=>cases u with
  | none=>rfl
  | some _=>exact (show False from r).elim
 | some _=>cases u with
  | none=>exact (show False from r).elim
  | some _=>rfl
theorem RelO.getD {o:Option V} {u:Option Value} {d:V} {d':Value} (r:RelO o u) (rd:RelV d d'):RelV (o.getD d) (u.getD d'):=by
 cases o with
 | none=>cases u with
  | none=>exact rd
  | some _=>exact (show False from r).elim
 | some _=>cases u with
  | none=>exact (show False from r).elim
  | some _=>exact r
theorem KV.val {kvs:List (κ×V)} {vs:List (κ×Value)} (r:KV kvs vs) (k:κ):RelO (valV kvs k) (valueAt vs k):=by
 unfold KV at r
 induction r with
 | nil=>exact True.intro
 | @cons p q ps qs h t ih =>
  obtain ⟨h1,h2⟩:=h
  by_cases e:p.1 = k
  ·have e':q.1 = k:=h1.symm.trans e
   have b:valueAt (q :: qs) k = some q.2:=by simp [valueAt,List.find?_cons,e']
   rw [valV_pos e,b]; exact h2
  ·have e':¬ q.1 = k:=fun z=>e (h1.trans z)
   have b:valueAt (q :: qs) k = valueAt qs k:=by simp [valueAt,List.find?_cons,e']
   rw [valV_neg e,b]; exact ih
theorem KV.any {kvs:List (κ×V)} {vs:List (κ×Value)} (r:KV kvs vs) (k:κ):(kvs.any fun kv=>decide (kv.1 = k)) = vs.any fun kv=>decide (kv.1 = k):=by
 unfold KV at r
 induction r with
 | nil=>rfl
 | cons h t ih=>rw [List.any_cons,List.any_cons,ih,h.1]
theorem KV.repl {kvs:List (κ×V)} {vs:List (κ×Value)} (r:KV kvs vs) (k:κ) {y:V} {u:Value} (ry:RelV y u) :
  KV (kvs.map fun kv=>if kv.1 = k then (kv.1,y) else kv) (vs.map fun kv=>if kv.1 = k then (kv.1,u) else kv):=by
 unfold KV at r ⊢
 induction r with
 | nil=>exact .nil
 | @cons p q ps qs h t ih =>
  rw [List.map_cons,List.map_cons]
  refine .cons ?_ ih
  obtain ⟨h1,h2⟩:=h
  by_cases e:p.1 = k
  ·rw [if_pos e,if_pos (h1.symm.trans e)]; exact ⟨h1,ry⟩
  ·rw [if_neg e,if_neg (fun z=>e (h1.trans z))]; exact ⟨h1,h2⟩
theorem KV.put {kvs:List (κ×V)} {vs:List (κ×Value)} (r:KV kvs vs) (k:κ) {y:V} {u:Value} (ry:RelV y u):KV (putK kvs k y) (stored vs k u):=by
 unfold putK stored
 rw [r.any k]
 by_cases e:(vs.any fun kv=>decide (kv.1 = k)) = true
 ·rw [if_pos e,if_pos e]; exact r.repl k ry
 ·rw [if_neg e,if_neg e]; exact Paired.snoc r ⟨rfl,ry⟩
theorem KV.drop {kvs:List (κ×V)} {vs:List (κ×Value)} (r:KV kvs vs) (k:κ):KV (dropK kvs k) (without vs k):=by
 unfold KV at r ⊢
 unfold dropK without
 induction r with
 | nil=>exact .nil
 | @cons p q ps qs h t ih =>
  obtain ⟨h1,h2⟩:=h
  rw [List.filter_cons,List.filter_cons]
  by_cases e:p.1 = k
  ·have a:¬ decide (p.1 ≠ k) = true:=by simp [e]
   have b:¬ decide (q.1 ≠ k) = true:=by simp [h1.symm.trans e]
   rw [if_neg a,if_neg b]; exact ih
  ·have e':¬ q.1 = k:=fun z=>e (h1.trans z)
   have a:decide (p.1 ≠ k) = true:=by simp [e]
   have b:decide (q.1 ≠ k) = true:=by simp [e']
   rw [if_pos a,if_pos b]; exact .cons ⟨h1,h2⟩ ih
theorem KV.keys {kvs:List (κ×V)} {vs:List (κ×Value)} (r:KV kvs vs):kvs.map (·.1) = vs.map (·.1):=by
 unfold KV at r
 induction r with
 | nil=>rfl
 | cons h t ih=>rw [List.map_cons,List.map_cons,ih,h.1]
theorem KV.length {kvs:List (κ×V)} {vs:List (κ×Value)} (r:KV kvs vs):kvs.length = vs.length:=Paired.length r
end
theorem kV_is {P:Program} {w:World} {k:Key} {u:Value} (r:RelV (kV k) u):(mixKind P w).is k u = true:=by
 cases k with
 | inl i=>obtain ⟨t,e⟩:=(show ∃ t,u = Value.int i t from r); subst e; exact mixKind_int P w i t
 | inr x=>obtain ⟨t,e⟩:=(show ∃ t,u = Value.str x t from r); subst e; exact mixKind_str P w x t
theorem items_are {P:Program} {w:World}:∀ {ks:List Key} {us:List Value},Vals (ks.map kV) us→ItemsAre (mixKind P w) ks us
 | [],_,r=>by rw [List.map_nil] at r; cases r; exact .nil
 | k :: ks,_,r=>by
  rw [List.map_cons] at r
  cases r with
  | cons h t=>exact .cons (kV_is h) (items_are t)
abbrev KT (H:Hp):List (List Key×V)→List (List Key×Addr×Value)→Prop:=Paired fun p q=>p.1 = q.1∧H q.2.1 = some (.tup (p.1.map kV))∧RelV p.2 q.2.2
theorem KT.val {H:Hp} {kvs:List (List Key×V)} {xs:List (List Key×Addr×Value)} (r:KT H kvs xs) (k:List Key):RelO (valV kvs k) ((atKey xs k).map (·.2)):=by
 induction r with
 | nil=>exact True.intro
 | @cons p q ps qs h t ih =>
  obtain ⟨h1,_,h2⟩:=h
  by_cases e:p.1 = k
  ·have e':q.1 = k:=h1.symm.trans e
   have b:atKey (q :: qs) k = some q.2:=by simp [atKey,List.find?_cons,e']
   rw [valV_pos e,b]; exact h2
  ·have e':¬ q.1 = k:=fun z=>e (h1.trans z)
   have b:atKey (q :: qs) k = atKey qs k:=by simp [atKey,List.find?_cons,e']
   rw [valV_neg e,b]; exact ih
theorem KT.repl {H:Hp} {kvs:List (List Key×V)} {xs:List (List Key×Addr×Value)} (r:KT H kvs xs) (k:List Key) {y:V} {u:Value} (ry:RelV y u) :
  KT H (kvs.map fun kv=>if kv.1 = k then (kv.1,y) else kv) (xs.map (putAt k u)):=by
 induction r with
 | nil=>exact .nil
 | @cons p q ps qs h t ih =>
  rw [List.map_cons,List.map_cons]
  refine .cons ?_ ih
  obtain ⟨h1,h2,h3⟩:=h
  unfold putAt
  by_cases e:p.1 = k
  ·rw [if_pos e,if_pos (h1.symm.trans e)]; exact ⟨h1,h2,ry⟩
  ·rw [if_neg e,if_neg (fun z=>e (h1.trans z))]; exact ⟨h1,h2,h3⟩
theorem KT.put {H:Hp} {kvs:List (List Key×V)} {xs:List (List Key×Addr×Value)} (r:KT H kvs xs) (k:List Key) {b:Addr} {y:V} {u:Value} (hb:H b = some (.tup (k.map kV))) (ry:RelV y u) :
  KT H (putK kvs k y) (storedH xs k b u):=by
 have e:(kvs.any fun kv=>decide (kv.1 = k)) = (atKey xs k).isSome:=by
  rw [valV_any,(r.val k).isSome_eq,Option.isSome_map]
 unfold putK storedH
 rw [e]
 by_cases q:(atKey xs k).isSome = true
 ·rw [if_pos q,if_pos q]; exact r.repl k ry
 ·rw [if_neg q,if_neg q]; exact Paired.snoc r ⟨rfl,hb,ry⟩
theorem KT.keeps {H H':Hp} {kvs:List (List Key×V)} {xs:List (List Key×Addr×Value)} (r:KT H kvs xs) (ht:∀ b ys,H b = some (.tup ys)→H' b = some (.tup ys)):KT H' kvs xs :=
 Paired.mapP r fun _ _ z=>⟨z.1,ht _ _ z.2.1,z.2.2⟩
section
variable {P:Program} {w:World} {H:Hp} {h:Heap} {a:Addr}
theorem rd_of {u:HO} (ok:HOk P w H h) (e:Rd H a u):ObjOk P w H h a u:=e.ok ok
theorem dk_rd {kvs:List (Key×V)} (ok:HOk P w H h) (e:Rd H a (.dK kvs)):kvs.length≤sizeLine∧(a == sysModules) = false∧∃ vs,KV kvs vs∧h.DictOf (mixKind P w) a vs :=
 show ObjOk P w H h a (.dK kvs) from rd_of ok e
theorem dk_of {kvs:List (Key×V)} (ok:HOk P w H h) (e:H a = some (.dK kvs)):kvs.length≤sizeLine∧(a == sysModules) = false∧∃ vs,KV kvs vs∧h.DictOf (mixKind P w) a vs:=dk_rd ok (.inl e)
theorem key_of {ks:List Key} (ok:HOk P w H h) (e:H a = some (.tup (ks.map kV))):(tupleKind (mixKind P w)).is h ks a:=by
 obtain ⟨_,its,r,o,h1,h2,n,h3⟩:=(show ObjOk P w H h a (.tup (ks.map kV)) from ok a _ e)
 exact ⟨o,its.toArray,n,h1,h2,h3,by simpa using items_are r⟩
theorem dt_rd {kvs:List (List Key×V)} (ok:HOk P w H h) (e:Rd H a (.dT kvs)):kvs.length≤sizeLine∧(a == sysModules) = false ∧
  ∃ xs,KT H kvs xs∧h.DictOfH (tupleKind (mixKind P w)) a xs:=by
 obtain ⟨z,y,xs,r,o,es,ep,h1,h2,h3,h4,h5⟩:=(show ObjOk P w H h a (.dT kvs) from rd_of ok e)
 refine ⟨z,y,xs,r,o,es,ep,h1,h2,h3,h4,fun x hx=>?_,h5⟩
 have all:∀ {l:List (List Key×V)} {m:List (List Key×Addr×Value)},KT H l m→∀ x ∈ m,(tupleKind (mixKind P w)).is h x.1 x.2.1:=by
  intro l m q
  induction q with
  | nil=>intro x hx; exact nomatch hx
  | @cons p q ps qs hq t ih =>
   intro x hx
   rcases List.mem_cons.mp hx with e | hx
   ·subst e
    exact key_of ok (by rw [← hq.1]; exact hq.2.1)
   ·exact ih x hx
 exact all r x hx
theorem dt_of {kvs:List (List Key×V)} (ok:HOk P w H h) (e:H a = some (.dT kvs)):kvs.length≤sizeLine∧(a == sysModules) = false ∧
  ∃ xs,KT H kvs xs∧h.DictOfH (tupleKind (mixKind P w)) a xs:=dt_rd ok (.inl e)
end
def DGet (H:Hp) (a:Addr) (y:V) (r:Option V):Prop :=
 (∃ kvs k,Rd H a (.dK kvs)∧y = kV k∧r = valV kvs k)∨∃ kvs k b,Rd H a (.dT kvs)∧y = .ref b∧H b = some (.tup (k.map kV))∧r = valV kvs k
def DPut (H:Hp) (a:Addr) (y v:V) (H':Hp):Prop :=
 (∃ kvs k,H a = some (.dK kvs)∧y = kV k∧kvs.length < sizeLine∧H' = upd H a (.dK (putK kvs k v))) ∨
 ∃ kvs k b,H a = some (.dT kvs)∧y = .ref b∧H b = some (.tup (k.map kV))∧kvs.length < sizeLine∧H' = upd H a (.dT (putK kvs k v))
theorem DGet.k {H:Hp} {a:Addr} {kvs:List (Key×V)} {k:Key} (e:H a = some (.dK kvs)):DGet H a (kV k) (valV kvs k):=.inl ⟨kvs,k,.inl e,rfl,rfl⟩
theorem DGet.t {H:Hp} {a b:Addr} {kvs:List (List Key×V)} {k:List Key} (e:H a = some (.dT kvs)) (eb:H b = some (.tup (k.map kV))):DGet H a (.ref b) (valV kvs k):=.inr ⟨kvs,k,b,.inl e,rfl,eb,rfl⟩
theorem DPut.k {H:Hp} {a:Addr} {kvs:List (Key×V)} {k:Key} {v:V} (e:H a = some (.dK kvs)) (hl:kvs.length < sizeLine):DPut H a (kV k) v (upd H a (.dK (putK kvs k v))):=.inl ⟨kvs,k,e,rfl,hl,rfl⟩
theorem DPut.t {H:Hp} {a b:Addr} {kvs:List (List Key×V)} {k:List Key} {v:V} (e:H a = some (.dT kvs)) (eb:H b = some (.tup (k.map kV))) (hl:kvs.length < sizeLine) :
  DPut H a (.ref b) v (upd H a (.dT (putK kvs k v))):=.inr ⟨kvs,k,b,e,rfl,eb,hl,rfl⟩
section
variable {X:Cx} {pins:List (Addr×Obj)} {σ:St} {H:Hp} {s:Shared} {a:Addr} {y v:V} {u r:Value} {o:Option V} {A:Around} {E:Value→Shared→Prop}
theorem Inv.big (I:Inv X pins σ H s):sysModules < s.heap.objs.size:=by
 have h:mainGlobals < s.heap.objs.size:=(I.mod.glob.keeps I.bk).lt
 exact Nat.lt_trans (by decide) h
theorem d_getItem {Q:Value→Shared→Prop} (hu:A.units+1 < cLine) (I:Inv X pins σ H s) (g:DGet H a y (some v)) (ry:RelV y u) (h:∀ w' s',Inv X pins σ H s'→RelV v w'→Q w' s') :
  wpAny (model X.prog X.w) A (getItem (.ref a) u) Q E s:=by
 rcases g with ⟨kvs,k,e,ey,l⟩ | ⟨kvs,k,b,e,ey,eb,l⟩
 ·subst ey
  obtain ⟨z,hd,vs,rel,dd⟩:=dk_rd I.hok e
  obtain ⟨w',hw,rw'⟩:=RelO.some_of (v:=v) (o:=valueAt vs k) (by rw [l]; exact rel.val k)
  exact wpAny_getItem_of (kV_is ry) dd.mapOf hw (h w' _ (I.tok _) rw')
 ·subst ey
  cases (show u = Value.ref b from ry)
  obtain ⟨z,hd,xs,rel,dd⟩:=dt_rd I.hok e
  obtain ⟨w',hw,rw'⟩:=RelO.some_of (v:=v) (o:=(atKey xs k).map (·.2)) (by rw [l]; exact rel.val k)
  obtain ⟨p,hp,hp2⟩:=Option.map_eq_some_iff.mp hw
  refine wpAny_getItem_heap (tupleKind_room_in1 hu) (key_of I.hok eb) dd hp ?_
  rw [hp2]
  exact h w' _ (I.tok _) rw'
theorem d_write {h':Heap} {t':Nat} {ob:HO} (I:Inv X pins σ H s) (mu:Mut (H a)) (hs:Heap.SameBut a s.heap h') (he:∃ q,h'.get? a = some q) (new:ObjOk X.prog X.w (upd H a ob) h' a ob) :
  Inv X pins σ (upd H a ob) { s with heap:=h',toks:=t' } :=
 I.write (x:=a) (e:=a) mu (.inl rfl) (fun b q hb z=>(hs.2 b hb).trans z) he new
theorem dk_new {P:Program} {w:World} {H':Hp} {h':Heap} {kvs:List (Key×V)} {vs:List (Key×Value)} (z:kvs.length≤sizeLine) (hd:(a == sysModules) = false) (rel:KV kvs vs) (dd:h'.DictOf (mixKind P w) a vs) :
  ObjOk P w H' h' a (.dK kvs):=⟨z,hd,vs,rel,dd⟩
theorem d_setItem {H':Hp} {Q:Unit→Shared→Prop} (hu:A.units+1 < cLine) (I:Inv X pins σ H s) (g:DPut H a y v H') (ry:RelV y u) (rv:RelV v r) (h:∀ s',Inv X pins σ H' s'→Q () s') :
  wpAny (model X.prog X.w) A (setItem (.ref a) u r) Q E s:=by
 rcases g with ⟨kvs,k,e,ey,l,eH⟩ | ⟨kvs,k,b,e,ey,eb,l,eH⟩
 ·subst ey eH
  obtain ⟨z,hd,vs,rel,dd⟩:=dk_of I.hok e
  have hz:vs.length≤sizeLine:=by rw [← rel.length]; exact z
  have hl:(putK kvs k v).length≤sizeLine:=by have:=length_putK kvs k v; omega
  refine wpAny_setItem_pairs (hsz:=hz) (kV_is ry) dd fun h' dd' hs=>h _ ?_
  have he:∃ q,h'.get? a = some q:=let ⟨q,_,_,hq,_⟩:=dd'; ⟨q,hq⟩
  exact d_write I (by rw [e]; exact True.intro) hs he (dk_new hl hd (rel.put k rv) dd')
 ·subst ey eH
  cases (show u = Value.ref b from ry)
  obtain ⟨z,hd,xs,rel,dd⟩:=dt_of I.hok e
  have hz:xs.length≤sizeLine:=by rw [← Paired.length rel]; exact z
  have hl:(putK kvs k v).length≤sizeLine:=by have:=length_putK kvs k v; omega
  refine wpAny_setItem_heap (hsz:=hz) (tupleKind_room_in1 hu) (key_of I.hok eb) dd fun h' dd' hs=>h _ ?_
  obtain ⟨q,es,ep,hq,h2,h3,h4,_,h5⟩:=dd'
  refine d_write I (by rw [e]; exact True.intro) hs ⟨q,hq⟩ ⟨hl,hd,_,(rel.put k eb rv).keeps fun c ys ec=>?_,q,es,ep,hq,h2,h3,h4,h5⟩
  rw [upd_ne (ne_of ec e (fun z=>nomatch z))]
  exact ec
end
section
variable {X:Cx} {pins:List (Addr×Obj)} {σ:St} {H:Hp} {s:Shared} {a:Addr} {kvs:List (Key×V)} {k:Key} {u:Value} {A:Around} {E:Value→Shared→Prop}
end
def NoSl (i:Expr):Prop:=∀ ov iv,subscripted i false ov iv = operate [ov,iv] (getItem ov iv)
theorem subD_of {prog:Program} {w:World} {A:Around} {E:Value→Shared→Prop} {s:Shared} {env:Env} {value slice:Expr} {pos:Pos} {T id:String} {Q:Value→Shared→Prop}
  (hl:typeLookup (.type T) "__getitem__" = pure (some (.builtin id))) (hs:NoSl slice)
  (h:wpAny (model prog w) A (eval value env) (fun o s₁=>wpAny (model prog w) A (eval slice env) (fun i s₂=>s₂.TypeIs o T∧wpAny (model prog w) A (getItem o i) Q E s₂) E s₁) E s) :
  wpAny (model prog w) A (eval (.Subscript value slice pos) env) Q E s:=by
 refine Subscript_ (wpAny_mono h (fun o s₁ h₁=>wpAny_mono h₁ (fun i s₂ h₂=>?_) fun _ _ x=>x) fun _ _ x=>x)
 obtain ⟨hT,h₂⟩:=h₂
 unfold subscriptTail
 refine wpAny_bind ?_
 rw [getitemInPython_of_ne hT.not_modules]
 refine wpAny_bind (wpAny_specialOf hT hl ?_)
 have fin:wpAny (model prog w) A (subscripted slice false o i) (fun r s₃=>wpAny (model prog w) A (letTemporaryGo value o r >>= fun _=>pure r) Q E s₃) E s₂:=by
  rw [hs o i]
  exact wpAny_operating (wpAny_mono h₂ (fun r s₃ h₃=>wpAny_bind (wpAny_letTemporaryGo (wpAny_pure h₃))) fun _ _ x=>x)
 first
  | exact wpAny_pure (wpAny_bind fin)
  | exact wpAny_bind (wpAny_pure (wpAny_bind fin))
  | exact wpAny_bind fin
theorem dict_typeIs {X:Cx} {pins:List (Addr×Obj)} {σ:St} {H:Hp} {s:Shared} {a:Addr} {y:V} {o:Option V} (I:Inv X pins σ H s) (g:DGet H a y o):s.TypeIs (.ref a) "dict":=by
 rcases g with ⟨kvs,k,e,_,_⟩ | ⟨kvs,k,b,e,_,_,_⟩
 ·obtain ⟨_,_,vs,_,dd⟩:=dk_rd I.hok e
  exact dd.typeIs
 ·obtain ⟨_,_,xs,_,dd⟩:=dt_rd I.hok e
  exact dd.typeIs
def tDGet (td ty:TE):TE:=fun σ H Q=>td σ H fun x H1=>ty σ H1 fun y H2=>∃ a v,x = .ref a∧DGet H2 a y (some v)∧Q v H2
def sDPut (td ty tv:TE):TS:=fun D σ H=>tv σ H fun v H1=>td σ H1 fun x H2=>ty σ H2 fun y H3=>∃ a H4,x = .ref a∧DPut H3 a y v H4∧D.nx σ H4
section
variable {X:Cx} {o i e value:Expr} {pos pos' tpos:Pos} {td ty tv:TE}
theorem pe_dget (hu:X.A.units+1 < cLine) (ho:PE X o td) (hi:PE X i ty) (hs:NoSl i):PE X (.Subscript o i pos) (tDGet td ty):=by
 intro pins s σ H Q I h
 refine subD_of PySem.F.slot_dict_getitem.lookup hs (thn (ho pins s σ H _ I h) fun u s1 ⟨x,H1,I1,rx,q1⟩=>thn (hi pins s1 σ H1 _ I1 q1) fun iv s2 ⟨y,H2,I2,ry,a,v,ex,g,q2⟩=>?_)
 subst ex
 obtain rfl:u = Value.ref a:=rx
 exact ⟨dict_typeIs I2 g,d_getItem hu I2 g ry fun w' s3 I3 rw'=>⟨v,H2,I3,rw',q2⟩⟩
theorem ps_dput (hu:X.A.units+1 < cLine) (ho:PE X o td) (hi:PE X i ty) (hv:PE X value tv) (hs:swapsWith value (some (.Subscript o i pos')) pos.line X.env = pure false) :
  PS X (.Assign [.Subscript o i pos'] value pos) (sDPut td ty tv):=by
 intro pins s σ H D I h
 refine wpAny_Assign_Subscript (thn (hv pins s σ H _ I h) fun r s1 ⟨v,H1,I1,rv,q1⟩=>thn (ho pins s1 σ H1 _ I1 q1) fun u s2 ⟨x,H2,I2,rx,q2⟩=>thn (hi pins s2 σ H2 _ I2 q2) fun iv s3 ⟨y,H3,I3,ry,a,H4,ex,g,q3⟩=>?_) hs
 subst ex
 obtain rfl:u = Value.ref a:=rx
 exact d_setItem hu I3 g ry rv fun s4 I4=>⟨σ,H4,I4,q3⟩
end
theorem dk_empty {P:Program} {w:World} {H:Hp} (h:Heap) (hb:sysModules < h.objs.size):ObjOk P w H (h.push { cls:=.type "dict",data:=.dict #[] }) h.objs.size (.dK []) :=
 ⟨Nat.zero_le _,beq_eq_false_iff_ne.mpr (Ne.symm (Nat.ne_of_lt hb)),[],.nil,Heap.DictOf.new h⟩
theorem dt_empty {P:Program} {w:World} {H:Hp} (h:Heap) (hb:sysModules < h.objs.size):ObjOk P w H (h.push { cls:=.type "dict",data:=.dict #[] }) h.objs.size (.dT []) :=
 ⟨Nat.zero_le _,beq_eq_false_iff_ne.mpr (Ne.symm (Nat.ne_of_lt hb)),[],.nil,_,#[],0,Heap.get?_push_size _ rfl,⟨rfl,rfl,rfl⟩,rfl,rfl,List.nodup_nil⟩
def tDNewK:TE:=fun _ H Q=>∀ p,H p = none→Q (.ref p) (upd H p (.dK []))
def tDNewT:TE:=fun _ H Q=>∀ p,H p = none→Q (.ref p) (upd H p (.dT []))
section
variable {X:Cx} {pos:Pos}
theorem pe_dnewK:PE X (.Dict [] [] pos) tDNewK:=fun pins s σ H Q I h =>
 wpAny_Dict_empty ⟨.ref s.heap.objs.size,_,I.laid (a:=s.heap.objs.size) (o:=.dK []) (t':=s.toks) (fun _ _ q=>Heap.get?_push_of_some _ q) (Nat.le_refl _) (dk_empty s.heap I.big),rfl,h _ (I.hok.fresh (Nat.le_refl _))⟩
theorem pe_dnewT:PE X (.Dict [] [] pos) tDNewT:=fun pins s σ H Q I h =>
 wpAny_Dict_empty ⟨.ref s.heap.objs.size,_,I.laid (a:=s.heap.objs.size) (o:=.dT []) (t':=s.toks) (fun _ _ q=>Heap.get?_push_of_some _ q) (Nat.le_refl _) (dt_empty s.heap I.big),rfl,h _ (I.hok.fresh (Nat.le_refl _))⟩
end
def mergeK (kvs more:List (Key×V)):List (Key×V):=more.foldl (fun acc kv=>putK acc kv.1 kv.2) kvs
theorem KV.merge:∀ {more:List (Key×V)} {rs:List (Key×Value)} {kvs:List (Key×V)} {vs:List (Key×Value)},KV more rs→KV kvs vs→KV (mergeK kvs more) (merged vs rs):=by
 intro more rs kvs vs r
 unfold KV at r
 induction r generalizing kvs vs with
 | nil=>intro q; exact q
 | @cons p q ps qs h t ih =>
  intro r0
  have e:KV (putK kvs p.1 p.2) (stored vs q.1 q.2):=by
   have:=r0.put p.1 h.2
   rw [← h.1]; exact this
  exact ih e
structure M1 (X:Cx) (o:Expr) (m:Str) (apos:Pos) (e:Expr) (cpos:Pos):Prop where
 base:attributeBase o m X.env (eval o X.env) = eval o X.env
 few:((backTo cpos (starEach [e] X.env)).all (fun x=>!x.1) && (backToKw cpos (keywordEach [] X.env)).all (fun x=>x.1.isSome)
  && decide (([e]:List Expr).length+([]:List Keyword).length+(if ([]:List Keyword).isEmpty then 0 else 1) < 30)) = true
 line:(apos.endLine == cpos.line) = true
 trees:backTo cpos (starEach [e] X.env) = [(false,eval e X.env)]
structure M2 (X:Cx) (o:Expr) (m:Str) (apos:Pos) (e f:Expr) (cpos:Pos):Prop where
 base:attributeBase o m X.env (eval o X.env) = eval o X.env
 few:((backTo cpos (starEach [e,f] X.env)).all (fun x=>!x.1) && (backToKw cpos (keywordEach [] X.env)).all (fun x=>x.1.isSome)
  && decide (([e,f]:List Expr).length+([]:List Keyword).length+(if ([]:List Keyword).isEmpty then 0 else 1) < 30)) = true
 line:(apos.endLine == cpos.line) = true
 trees:backTo cpos (starEach [e,f] X.env) = [(false,eval e X.env),(false,eval f X.env)]
def IsD (H:Hp) (a:Addr):Prop:=(∃ kvs,Rd H a (.dK kvs))∨∃ kvs,Rd H a (.dT kvs)
theorem isD_at {X:Cx} {pins:List (Addr×Obj)} {σ:St} {H:Hp} {s:Shared} {a:Addr} (I:Inv X pins σ H s) (d:IsD H a) :
  s.TypeIs (.ref a) "dict"∧(∀ b,Value.ref a = .ref b→∃ ob,s.heap.get? b = some ob∧ob.dict = none)∧(a == sysModules) = false:=by
 rcases d with ⟨kvs,e⟩ | ⟨kvs,e⟩
 ·obtain ⟨_,hd,vs,_,dd⟩:=dk_rd I.hok e
  refine ⟨dd.typeIs,fun b q=>?_,hd⟩
  cases q
  obtain ⟨ob,_,_,h1,h2,_⟩:=dd
  exact ⟨ob,h1,h2.2.1⟩
 ·obtain ⟨_,hd,xs,_,dd⟩:=dt_rd I.hok e
  refine ⟨dd.typeIs,fun b q=>?_,hd⟩
  cases q
  obtain ⟨ob,_,_,h1,h2,_⟩:=dd
  exact ⟨ob,h1,h2.2.1⟩
section
variable {X:Cx} {pins:List (Addr×Obj)} {σ:St} {H:Hp} {s:Shared} {a:Addr} {y d:V} {u r:Value} {o:Option V} {A:Around} {E:Value→Shared→Prop}
theorem d_get2 {Q:Value→Shared→Prop} (hu:A.units+1 < cLine) (I:Inv X pins σ H s) (g:DGet H a y o) (ry:RelV y u) (rd:RelV d r) (h:∀ w' s',Inv X pins σ H s'→RelV (o.getD d) w'→Q w' s') :
  wpAny (model X.prog X.w) A (call (.builtin "dict.get") [.ref a,u,r]) Q E s:=by
 rcases g with ⟨kvs,k,e,ey,l⟩ | ⟨kvs,k,b,e,ey,eb,l⟩
 ·subst ey
  obtain ⟨z,hd,vs,rel,dd⟩:=dk_rd I.hok e
  refine call_meetsIn PySem.F.slot_dict_get dd.typeIs PySem.F.entry_dict_get (PySem.F.args_dict_get_3 _ _ _) (meets_dict_get_default (mixKind X.prog X.w) a (kV_is ry) hd r) ⟨_,dd.mapOf,h _ _ (I.tok _) ?_⟩
  rw [l]
  exact (rel.val k).getD rd
 ·subst ey
  cases (show u = Value.ref b from ry)
  obtain ⟨z,hd,xs,rel,dd⟩:=dt_rd I.hok e
  refine call_meetsIn PySem.F.slot_dict_get dd.typeIs PySem.F.entry_dict_get (PySem.F.args_dict_get_3 _ _ _) (meetsH_dict_get_default (tupleKind (mixKind X.prog X.w)) a b hd r) ⟨tupleKind_room_in1 hu,k,xs,key_of I.hok eb,dd,h _ _ (I.tok _) ?_⟩
  rw [l]
  exact (rel.val k).getD rd
end
def tDGet2 (td ty tx:TE):TE:=fun σ H Q=>td σ H fun x H1=>∃ a,x = .ref a∧IsD H1 a∧ty σ H1 fun y H2=>tx σ H2 fun z H3=>∃ o,DGet H3 a y o∧Q (o.getD z) H3
section
variable {X:Cx} {o e f:Expr} {apos cpos:Pos} {td ty tx:TE}
theorem pe_dget2 (hu:X.A.units+1 < cLine) (ho:PE X o td) (he:PE X e ty) (hf:PE X f tx) (m:M2 X o "get" apos e f cpos):PE X (.Call (.Attribute o "get" apos) [e,f] [] cpos) (tDGet2 td ty tx):=by
 intro pins s σ H Q I h
 refine wpAny_Call_method m.base m.few m.line PySem.F.plainAttrs_dict PySem.F.slot_dict_get PySem.F.type_dict_get (thn (ho pins s σ H _ I h) fun u s1 ⟨x,H1,I1,rx,a,ex,d,q1⟩=>?_)
 subst ex
 obtain rfl:u = Value.ref a:=rx
 obtain ⟨t1,t2,_⟩:=isD_at I1 d
 refine ⟨t1,t2,?_⟩
 rw [m.trees]
 refine Calls.callWith_builtin rfl (Calls.evalArgs_plain (Calls.spliced_cons (thn (he pins s1 σ H1 _ I1 q1) fun iv s2 ⟨y,H2,I2,ry,q2⟩ =>
  Calls.spliced_cons (thn (hf pins s2 σ H2 _ I2 q2) fun fv s3 ⟨z,H3,I3,rz,ov,g,q3⟩=>Calls.spliced_nil ?_))))
 exact d_get2 hu I3 g ry rz fun w' s4 I4 rw'=>⟨_,H3,I4,rw',q3⟩
end
section
variable {X:Cx} {pins:List (Addr×Obj)} {σ:St} {H:Hp} {s:Shared} {a:Addr} {kvs:List (Key×V)} {A:Around} {E:Value→Shared→Prop}
end
section
variable {X:Cx} {pins:List (Addr×Obj)} {σ:St} {H:Hp} {s:Shared} {a:Addr} {y:V} {u:Value} {A:Around} {E:Value→Shared→Prop}
end
end L2
namespace L2
open PySem PySem.Spec PyProof.Rows
section
variable {X:Cx}
end
section
variable {κ:Type} [DecidableEq κ]
end
end L2
set_option maxRecDepth 100000
namespace L2
open PySem PySem.Spec PyProof.Rows Geo
section
variable {prog:Program} {w:World} {A:Around} {E:Value→Shared→Prop} {s:Shared}
structure Feed (prog:Program) (w:World) (A:Around) (it S:Addr) (n:Nat) (J:Nat→List Value→Heap→Prop) (Fin:List Value→Heap→Prop):Prop where
 off:∀ i acc h h',J i acc h→(∀ b o,b ≠ S→h.get? b = some o→h'.get? b = some o)→J i acc h'
 item:∀ i acc (s:Shared) (Q:Option Value→Shared→Prop) (E:Value→Shared→Prop),i < n→J i acc s.heap→(∃ o,s.heap.get? S = some o) →
  (∀ v h' tk,J (i+1) (acc++[v]) h'→(∀ o,s.heap.get? S = some o→h'.get? S = some o)→Q (some v) { s with heap:=h',toks:=tk })→wpAny (model prog w) A (pyNext (.ref it)) Q E s
 done:∀ acc (s:Shared) (Q:Option Value→Shared→Prop) (E:Value→Shared→Prop),J n acc s.heap →
  (∀ h' tk,Fin acc h'→(∀ o,s.heap.get? S = some o→h'.get? S = some o)→Q none { s with heap:=h',toks:=tk })→wpAny (model prog w) A (pyNext (.ref it)) Q E s
theorem feed_loop {it S:Addr} {n:Nat} {J:Nat→List Value→Heap→Prop} {Fin:List Value→Heap→Prop} {R:Result→Shared→Prop} (W:Feed prog w A.in1 it S n J Fin) (hn:n≤sizeLine) (res:Value) :
  ∀ (k i:Nat) (s:Shared) (acc:List Value) (c:Nat),n - i = k→i≤n→J i acc s.heap→acc.length = i→s.heap.get? S = some { cls:=.type "list",dict:=none,data:=.seq acc.toArray c,slots:=#[] } →
  (∀ h' tk acc' c',Fin acc' h'→acc'.length = n→h'.get? S = some { cls:=.type "list",dict:=none,data:=.seq acc'.toArray c',slots:=#[] }→R (.ok (.ret res)) { s with heap:=h',toks:=tk }) →
  codeAny (model prog w) A (.builtin "list.extend.loop" ⟨[.ref S,.ref it,res],[]⟩) R s:=by
 intro k
 induction k with
 | zero =>
  intro i s acc c hk hi hJ hl hS hR
  obtain rfl:i = n:=by omega
  refine codeAny_builtin (F.entry_extend_loop) ?_; rw [Around.under_plainId (F.plain_extend_loop) _]
  show wpAny _ A.in1 (pyNext (.ref it) >>= _) _ _ s
  exact wpAny_bind (W.done acc s _ _ hJ fun h' tk fin kS=>wpAny_pure (hR h' tk acc c fin hl (kS _ hS)))
 | succ k ih =>
  intro i s acc c hk hi hJ hl hS hR
  have hlt:i < n:=by omega
  refine codeAny_builtin (F.entry_extend_loop) ?_; rw [Around.under_plainId (F.plain_extend_loop) _]
  show wpAny _ A.in1 (pyNext (.ref it) >>= _) _ _ s
  refine wpAny_bind (W.item i acc s _ _ hlt hJ ⟨_,hS⟩ fun v h' tk hJ' kS=>?_)
  have hS':=kS _ hS
  show wpAny _ A.in1 (updateSeq S (·.push v) >>= _) _ _ { s with heap:=h',toks:=tk }
  refine wpAny_bind (wpAny_updateSeq (s:={ s with heap:=h',toks:=tk }) hS' rfl (wpAny_pure ⟨plainId_quiet (F.plain_extend_loop) _,?_⟩) (by rw [List.size_toArray,hl]; omega) (by show (acc.toArray.push v).size≤sizeLine+1; rw [Array.size_push,List.size_toArray,hl]; omega))
  obtain ⟨c',q⟩:∃ c',(h'.update S (Obj.mapSeq (·.push v))).get? S = some { cls:=.type "list",dict:=none,data:=.seq (acc++[v]).toArray c',slots:=#[] }:=by
   have q:=PySem.IsL.update hS' (·.push v)
   rw [show acc.toArray.push v = (acc++[v]).toArray by simp] at q
   exact ⟨_,q⟩
  exact ih (i+1) _ (acc++[v]) c' (by omega) hlt (W.off _ _ _ _ hJ' fun b o hb e=>(Heap.get?_update_other _ _ (Ne.symm hb)).trans e) (by simp [hl]) q fun h2 tk2 acc2 c2 f2 l2 g2=>hR h2 tk2 acc2 c2 f2 l2 g2
end
end L2
set_option maxRecDepth 100000
namespace L2
open PySem PySem.Spec PyProof.Rows Geo
section
variable {prog:Program} {w:World} {A:Around} {E:Value→Shared→Prop} {s:Shared}
theorem call_list_feed {T:String} {r:Addr} {n:Nat} {J:Nat→List Value→Heap→Prop} {Fin:List Value→Heap→Prop} {oI:Obj} {Q:Value→Shared→Prop} (hoI:oI.isFreed = false) (hh:A.handled = none) (hT:s.TypeIs (.ref r) T)
  (nl:(Value.type T == Value.type "list") = false) (nt:(Value.type T == Value.type "tuple") = false) (hn:n≤sizeLine)
  (hint:∀ (A:Around) (E:Value→Shared→Prop) (s':Shared) (Q:Bool→Shared→Prop),s'.TypeIs (.ref r) T→Q false s'→wpAny (model prog w) A (Builtin.List.listLengthHint (.ref r)) Q E s')
  (iter:∀ (A:Around) (E:Value→Shared→Prop) (s':Shared) (Q:Value→Shared→Prop),(∀ b o,s.heap.get? b = some o→s'.heap.get? b = some o)→Q (.ref s'.heap.objs.size) { s' with heap:=s'.heap.push oI }→wpAny (model prog w) A (pyIter (.ref r)) Q E s')
  (W:∀ A':Around,A'.handled = none→Feed prog w A' (s.heap.objs.size+1) s.heap.objs.size n J Fin)
  (start:∀ h:Heap,(∀ b o,s.heap.get? b = some o→h.get? b = some o)→h.get? (s.heap.objs.size+1) = some oI→J 0 [] h)
  (hQ:∀ h' tk acc c,Fin acc h'→acc.length = n→h'.get? s.heap.objs.size = some { cls:=.type "list",dict:=none,data:=.seq acc.toArray c,slots:=#[] }→Q (.ref s.heap.objs.size) { s with heap:=h',toks:=tk }) :
  wpAny (model prog w) A (call (.type "list") [.ref r]) Q E s:=by
 obtain ⟨orr,er,_⟩:=id hT
 have lr:r < s.heap.objs.size:=Heap.lt_size er
 refine callType_codes (Q₁:=fun obj s1=>obj = Value.ref s.heap.objs.size∧s1 = { s with heap:=s.heap.push { cls:=.type "list",data:=.seq #[] } }) PySem.F.called_list (PySem.F.typeCall_list_1 _) (PySem.F.entry_list_init) (code_list_new _ ⟨rfl,rfl⟩) fun obj s1 h1=>?_
 obtain ⟨rfl,rfl⟩:=h1
 have hS:(s.heap.push { cls:=.type "list",data:=.seq #[] }).get? s.heap.objs.size = some { cls:=.type "list",data:=.seq #[] }:=Heap.get?_push_size _ rfl
 refine ⟨⟨_,hS,rfl⟩,PySem.F.args_list_init_2 _ _,?_⟩
 show wpAny _ _ (Builtin.List.listItems (.ref s.heap.objs.size) >>= fun old=>Builtin.List.listUpdate (.ref s.heap.objs.size) (fun _=>#[]) >>= fun _=>letGo old.toList.reverse >>= fun _=>Builtin.List.listExtendWith (.ref s.heap.objs.size) (.ref r) .none) _ _ _
 refine wpAny_bind ?_; unfold Builtin.List.listItems
 refine wpAny_bind (wpAny_seqItems hS rfl (wpAny_pure ?_))
 show wpAny _ _ (updateSeq s.heap.objs.size (fun _=>#[]) >>= fun _=>letGo (#[]:Array Value).toList.reverse >>= fun _=>Builtin.List.listExtendWith (.ref s.heap.objs.size) (.ref r) .none) _ _ _
 refine wpAny_bind (wpAny_updateSeq hS rfl ?_)
 obtain ⟨c2,g2⟩:∃ c2,((s.heap.push { cls:=.type "list",data:=.seq #[] }).update s.heap.objs.size (Obj.mapSeq (fun _=>(#[]:Array Value)))).get? s.heap.objs.size = some { cls:=.type "list",data:=.seq #[] c2 }:=⟨_,Heap.get?_update_self (Obj.mapSeq (fun _=>(#[]:Array Value))) hS rfl⟩
 have kp2:∀ b o,s.heap.get? b = some o→((s.heap.push { cls:=.type "list",data:=.seq #[] }).update s.heap.objs.size (Obj.mapSeq (fun _=>(#[]:Array Value)))).get? b = some o:=fun b o e=>(Heap.get?_update_other _ _ (Nat.ne_of_gt (Heap.lt_size e))).trans (Heap.get?_push_of_some _ e)
 have sz2:((s.heap.push { cls:=.type "list",data:=.seq #[] }).update s.heap.objs.size (Obj.mapSeq (fun _=>(#[]:Array Value)))).objs.size = s.heap.objs.size+1:=by rw [(Heap.SameBut.update _ _ _).1,Heap.size_push]
 refine wpAny_bind (wpAny_letGo ?_)
 dsimp only
 generalize ((s.heap.push { cls:=.type "list",data:=.seq #[] }).update s.heap.objs.size (Obj.mapSeq (fun _=>(#[]:Array Value)))) = h2 at g2 kp2 sz2 ⊢
 unfold Builtin.List.listExtendWith
 refine wpAny_bind (wpAny_typeOf (T:=T) (s:={ s with heap:=h2 }) ?_ ?_)
 ·obtain ⟨o,e,c⟩:=id hT
  exact ⟨o,kp2 _ _ e,c⟩
 have h1:Builtin.List.listSameRef (.ref s.heap.objs.size) (.ref r) = false:=by simp [Builtin.List.listSameRef,Nat.ne_of_gt lr]
 (simp only [h1,nl,nt,Bool.or_false,Bool.false_eq_true,if_false])
 refine wpAny_bind (iter _ _ { s with heap:=h2 } _ kp2 ?_)
 have kp3:∀ b o,s.heap.get? b = some o→(h2.push oI).get? b = some o:=fun b o e=>Heap.get?_push_of_some _ (kp2 b o e)
 have gI:(h2.push oI).get? (s.heap.objs.size+1) = some oI:=by rw [← sz2]; exact Heap.get?_push_size _ hoI
 have gS:=Heap.get?_push_of_some oI g2
 refine wpAny_bind (wpAny_holding (hint _ _ _ _ ?_ ?_))
 ·obtain ⟨o,e,c⟩:=id hT
  exact ⟨o,kp3 _ _ e,c⟩
 have loop:∀ (h:Heap) (c:Nat),(∀ b o,b ≠ s.heap.objs.size→(h2.push oI).get? b = some o→h.get? b = some o)→h.get? s.heap.objs.size = some { cls:=.type "list",dict:=none,data:=.seq #[] c,slots:=#[] } →
   codeAny (model prog w) A.in1 (.builtin "list.extend.loop" ⟨[.ref s.heap.objs.size,.ref h2.objs.size,.none],[]⟩) (wants (fun r s₂=>r = Value.none∧Q (Value.ref s.heap.objs.size) s₂) E) { s with heap:=h }:=by
  intro h c kh gh
  rw [sz2]
  refine feed_loop (A:=A.in1) (W A.in1.in1 hh) hn .none n 0 _ [] c (by simp) (Nat.zero_le _) (start h (fun b o e=>kh b o (Nat.ne_of_lt (Heap.lt_size e)) (kp3 b o e)) (kh _ _ (Nat.succ_ne_self _) gI)) rfl gh fun h' tk acc' c' fin la ga=>?_
  exact ⟨rfl,hQ h' tk acc' c' fin la ga⟩
 have oth:∀ b o,b ≠ s.heap.objs.size→(h2.push oI).get? b = some o→(((h2.push oI).update s.heap.objs.size (Obj.mapSeq (·.push Value.none))).update s.heap.objs.size (Obj.mapSeq (·.pop))).get? b = some o:=fun b o hb e=>(Heap.get?_update_other _ _ (Ne.symm hb)).trans ((Heap.get?_update_other _ _ (Ne.symm hb)).trans e)
 refine wpAny_ite_split (fun _=>?_) (fun _=>wpAny_pure ⟨plainId_quiet (PySem.F.plain_extend_loop) _,loop _ c2 (fun b o _ e=>e) gS⟩)
 refine wpAny_bind (wpAny_rule (wpAny_bind ?_))
 show wpAny _ _ (updateSeq s.heap.objs.size (·.push Value.none) >>= fun _=>updateSeq s.heap.objs.size (·.pop)) _ _ _
 refine wpAny_bind (wpAny_updateSeq gS rfl ?_)
 have g3:=Heap.get?_update_self (Obj.mapSeq (·.push Value.none)) gS rfl
 (refine wpAny_updateSeq (hz:=by seq_fits) g3 rfl ?_)
 have g4:=Heap.get?_update_self (Obj.mapSeq (·.pop)) g3 rfl
 exact wpAny_pure ⟨plainId_quiet (PySem.F.plain_extend_loop) _,loop _ _ oth g4⟩
end
end L2
set_option maxRecDepth 100000
namespace L2
open PySem PySem.Spec PyProof.Rows Geo
section
variable {prog:Program} {w:World} {A:Around} {E:Value→Shared→Prop} {s:Shared}
theorem exact_type {d:Addr} {od:Obj} (ho:s.heap.get? d = some od) (hx:od.ExactDict):s.TypeIs (.ref d) "dict":=⟨od,ho,hx.1⟩
theorem iter_keys {d:Addr} {od:Obj} {es:Array DictEntry} {ep:Nat} {Q:Value→Shared→Prop} (hd:(d == sysModules) = false) (ho:s.heap.get? d = some od) (hx:od.ExactDict) (hdat:od.data = .dict es ep)
  (hQ:Q (.ref s.heap.objs.size) { s with heap:=s.heap.push { cls:=.type "dict_keyiterator",data:=.fields #[.ref d,.int 0 0,.int es.size 0,.int ep 0] } }):wpAny (model prog w) A (pyIter (.ref d)) Q E s:=by
 have hT:=exact_type ho hx
 refine wpAny_pyIter_slot hT (F.slot_dict_iter) (wpAny_call_entry (F.slot_dict_iter) hT (F.entry_dict_iter) ?_ (F.args_dict_iter_1 _))
 unfold Builtin.«dict.__iter__»; refine wpAny_bind ?_
 unfold Builtin.Dict.dictSlotNone; refine wpAny_bind (wpAny_notOrdered_dict hT ?_)
 show wpAny _ _ (pure (Value.ref d)) _ _ s; refine wpAny_pure ?_
 show wpAny _ _ (Builtin.Dict.showsAll d >>= _) _ _ s; unfold Builtin.Dict.showsAll
 rw [if_neg (by rw [hd]; exact Bool.false_ne_true)]; refine wpAny_bind (wpAny_pure ?_)
 refine wpAny_bind (wpAny_dictEntries ho hdat (wpAny_bind (wpAny_dictEpoch ho hdat ?_)))
 refine wpAny_bind (wpAny_newObj_type (wpAny_pure ⟨_,rfl,"dict_keyiterator",_,⟨_,Heap.get?_push_size _ rfl,rfl⟩,(F.slot_dict_keyiterator_next).lookup,?_⟩))
 simpa [rawInt] using hQ
theorem next_key {it d:Addr} {i ep:Nat} {od:Obj} {es:Array DictEntry} {Q:Option Value→Shared→Prop} (hit:s.heap.IsKeyIter it d i es.size ep) (hod:s.heap.get? d = some od) (hdd:od.data = .dict es ep) (hlt:i < es.size)
  (hQ:∀ h',h'.IsKeyIter it d (i+1) es.size ep→Heap.SameBut it s.heap h'→Q (some es[i].key) { s with heap:=h' }):wpAny (model prog w) A (pyNext (.ref it)) Q E s:=by
 obtain ⟨o,ho,hc,hd⟩:=id hit
 unfold pyNext
 refine wpAny_bind (wpAny_attempt (wpAny_callSpecial?_slot (name:=Str.ofString "__next__") hit.typeIs (F.slot_dict_keyiterator_next) (wpAny_call_entry (F.slot_dict_keyiterator_next) hit.typeIs (F.entry_dict_keyiterator_next) ?_ (F.args_dict_keyiterator_next_1 _))))
 refine wpAny_bind (wpAny_pure (wpAny_bind (wpAny_bind ?_)))
 (first | refine wpAny_bind (wpAny_typeNameOfWhole_keyiter hit.typeIs (wpAny_pure ?_)) | refine wpAny_bind (wpAny_typeNameOf_keyiter hit.typeIs (wpAny_pure ?_)))
 refine wpAny_bind (wpAny_fieldsOf ho hd ?_)
 simp only [show Builtin.Dict_items.ownsTuple "dict_keyiterator" = false by decide,Bool.false_eq_true,if_false]
 show wpAny _ _ (if (Value.ref d == Value.none) = true then _ else _) _ _ s; rw [if_neg (show ¬ ((Value.ref d == Value.none) = true) from Bool.false_ne_true)]
 refine wpAny_bind (wpAny_pure (wpAny_bind (wpAny_dictEntries hod hdd ?_)))
 rw [if_neg (by simp)]; refine wpAny_bind (wpAny_pure (wpAny_bind (wpAny_dictEpoch hod hdd ?_)))
 rw [if_neg (by simp)]; refine wpAny_pure ?_
 simp only [show ¬ ((i:Int) < 0) from by omega,if_false,Int.toNat_natCast,Array.getElem?_eq_getElem hlt]; refine wpAny_bind ?_
 (first | refine wpAny_bind (wpAny_typeNameOfWhole_keyiter hit.typeIs (wpAny_pure ?_)) | refine wpAny_bind (wpAny_typeNameOf_keyiter hit.typeIs (wpAny_pure ?_)))
 (refine wpAny_bind (wpAny_isOneOf_keyiter hit.typeIs ?_))
 show wpAny _ _ (setField (.ref it) 1 (rawInt ((i:Int)+1)) >>= _) _ _ s; refine wpAny_bind (wpAny_setField ho hd (by simp) ?_)
 have hit':(s.heap.update it (Obj.mapFields (·.setIfInBounds 1 (rawInt ((i:Int)+1))))).IsKeyIter it d (i+1) es.size ep:=⟨_,Heap.get?_update_self _ ho (Obj.isFreed_of_fields (Obj.data_mapFields hd _)),(Obj.cls_mapFields ..).trans hc,by rw [Obj.data_mapFields hd]; simp [rawInt]⟩
 refine wpAny_bind (wpAny_holding (wpAny_bind (wpAny_isOneOf_keyiter (s:={ s with heap:=s.heap.update it (Obj.mapFields (·.setIfInBounds 1 (rawInt ((i:Int)+1)))) }) hit'.typeIs ?_)))
 show wpAny _ _ (pure es[i].key) _ _ _; exact wpAny_pure (wpAny_pure ⟨_,rfl,wpAny_pure (hQ _ hit' (Heap.SameBut.update ..))⟩)
end
end L2
set_option maxRecDepth 100000
namespace L2
open PySem PySem.Spec PyProof.Rows Geo PySem.W
section
variable {prog:Program} {w:World} {A:Around} {E:Value→Shared→Prop} {s:Shared}
theorem end_key {it d:Addr} {i ep:Nat} {od:Obj} {es:Array DictEntry} {Q:Option Value→Shared→Prop} (hh:A.handled = none) (hit:s.heap.IsKeyIter it d i es.size ep) (hod:s.heap.get? d = some od) (hdd:od.data = .dict es ep) (hge:es.size≤i)
  (hQ:∀ h',Heap.ExtBut it s.heap h'→Q none { s with heap:=h' }):wpAny (model prog w) A (pyNext (.ref it)) Q E s:=by
 obtain ⟨o,ho,hc,hd⟩:=id hit
 unfold pyNext
 refine wpAny_bind (wpAny_attempt (wpAny_callSpecial?_slot (name:=Str.ofString "__next__") hit.typeIs (F.slot_dict_keyiterator_next) (wpAny_call_entry (F.slot_dict_keyiterator_next) hit.typeIs (F.entry_dict_keyiterator_next) ?_ (F.args_dict_keyiterator_next_1 _))))
 refine wpAny_bind (wpAny_pure (wpAny_bind (wpAny_bind ?_)))
 (first | refine wpAny_bind (wpAny_typeNameOfWhole_keyiter hit.typeIs (wpAny_pure ?_)) | refine wpAny_bind (wpAny_typeNameOf_keyiter hit.typeIs (wpAny_pure ?_)))
 refine wpAny_bind (wpAny_fieldsOf ho hd ?_); simp only [show Builtin.Dict_items.ownsTuple "dict_keyiterator" = false by decide,Bool.false_eq_true,if_false]
 show wpAny _ _ (if (Value.ref d == Value.none) = true then _ else _) _ _ s; rw [if_neg (show ¬ ((Value.ref d == Value.none) = true) from Bool.false_ne_true)]
 refine wpAny_bind (wpAny_pure (wpAny_bind (wpAny_dictEntries hod hdd ?_))); rw [if_neg (by simp)]
 refine wpAny_bind (wpAny_pure (wpAny_bind (wpAny_dictEpoch hod hdd ?_))); rw [if_neg (by simp)]; refine wpAny_pure ?_
 simp only [show ¬ ((i:Int) < 0) from by omega,if_false,Int.toNat_natCast,Array.getElem?_eq_none hge]; refine wpAny_bind ?_
 (first | refine wpAny_bind (wpAny_typeNameOfWhole_keyiter hit.typeIs (wpAny_pure ?_)) | refine wpAny_bind (wpAny_typeNameOf_keyiter hit.typeIs (wpAny_pure ?_)))
 show wpAny _ _ (setField (.ref it) 0 .none >>= _) _ _ s; refine wpAny_bind (wpAny_setField ho hd (by simp) ?_)
 show wpAny _ _ (newExc (.type "StopIteration") [] >>= _) _ _ _; refine wpAny_bind ?_; simp only [newExc,newTuple]
 refine wpAny_bind (wpAny_newObj_type ?_ (by size_fits)); refine wpAny_bind (m:=firstArgMember _ _) (wpAny_of_eq (a:=Value.none) (by first | rfl | (simp only [firstArgMember]; rfl)) ?_)
 refine wpAny_newObj_type ?_ (by size_fits); simp only [raiseNew]; refine wpAny_bind (wpAny_handled ?_)
 rw [show A.in1.handled = none from hh]; refine wpAny_bind (wpAny_pure (wpAny_throw ?_))
 refine wpAny_bind (wpAny_isInstance (T:="StopIteration") (b:=true) ⟨_,Heap.get?_push_size _ rfl,rfl⟩ isSubtype_stop (wpAny_pure (hQ _ (((Heap.SameBut.update ..).extBut.push _).push _))))
theorem feed_keys {it S d:Addr} {ep:Nat} {od:Obj} {es:Array DictEntry} {h0:Heap} (hh:A.handled = none) (hS:h0.objs.size≤S) (hi:h0.objs.size≤it) (hne:it ≠ S) (hod:h0.get? d = some od) (hdd:od.data = .dict es ep) :
  Feed prog w A it S es.size (fun i acc h=>(∀ b o,h0.get? b = some o→h.get? b = some o)∧h.IsKeyIter it d i es.size ep∧acc = (es.toList.take i).map (·.key)) (fun acc h=>(∀ b o,h0.get? b = some o→h.get? b = some o)∧acc = es.toList.map (·.key)) where
 off:=fun i acc h h' ⟨k,hit,e⟩ kh=>⟨fun b o eb=>kh b o (Nat.ne_of_lt (Nat.lt_of_lt_of_le (Heap.lt_size eb) hS)) (k b o eb),hit.at fun o eo=>kh it o hne eo,e⟩
 item:=fun i acc s Q E hlt ⟨k,hit,e⟩ _ hQ=>by
  refine next_key hit (k d od hod) hdd hlt fun h' hit' sb=>?_
  refine hQ _ h' s.toks ⟨fun b o eb=>(sb.2 b (Nat.ne_of_lt (Nat.lt_of_lt_of_le (Heap.lt_size eb) hi))).trans (k b o eb),hit',?_⟩ fun o eo=>(sb.2 S (Ne.symm hne)).trans eo
  rw [e,List.take_add_one,show es.toList[i]? = some es[i] by simp [hlt]]; simp
 done:=fun acc s Q E ⟨k,hit,e⟩ hQ=>by
  refine end_key hh hit (k d od hod) hdd (Nat.le_refl _) fun h' eb=>?_
  refine hQ h' s.toks ⟨fun b o e'=>eb b o (Nat.ne_of_lt (Nat.lt_of_lt_of_le (Heap.lt_size e') hi)) (k b o e'),?_⟩ fun o eo=>eb S o (Ne.symm hne) eo
  rw [e,List.take_of_length_le (by simp)]
end
theorem call_list_dT {X:Cx} (hh:X.A.handled = none):CallR X (.type "list") (fun xs H Q=>∃ a kvs,xs = [.ref a]∧H a = some (.dT kvs) ∧
  ∀ l zs,H l = none→Paired (fun (z:V) (p:List Key×V)=>∃ b,z = .ref b∧H b = some (.tup (p.1.map kV))) zs kvs→Q (.ref l) (upd H l (.lst zs))):=by
 intro pins s σ H xs us Q I rv h
 obtain ⟨a,kvs,rfl,ha,k⟩:=h
 obtain ⟨u,rfl,ru⟩:=vals1 rv
 cases ru
 obtain ⟨z,y,vs,r,o,es,ep,h1,h2,h3,h4,h5⟩:=(show ObjOk X.prog X.w H s.heap a (.dT kvs) from I.hok a _ ha)
 have hes:es.size = kvs.length:=by
  have e1:=r.length
  have e2:es.toList.length = vs.length:=by rw [h4,List.length_map]
  rw [Array.length_toList] at e2; omega
 refine call_list_feed (T:="dict") (n:=es.size) (oI:={ cls:=.type "dict_keyiterator",data:=.fields #[.ref a,.int 0 0,.int es.size 0,.int ep 0] }) rfl hh (exact_type h1 h2) (by decide) (by decide) (by omega)
  (fun A E s' Q hT hq=>kdl_hint_dict hT hq) (fun A E s' Q kp hq=>iter_keys y (kp a o h1) h2 h3 hq) (fun A' hA=>feed_keys (h0:=s.heap) hA (Nat.le_refl _) (Nat.le_succ _) (Nat.succ_ne_self _) h1 h3)
  (fun h kp g=>⟨kp,⟨_,g,rfl,rfl⟩,rfl⟩) fun h' tk acc c fin la ga=>?_
 obtain ⟨kp,rfl⟩:=fin
 have nl:H s.heap.objs.size = none:=I.hok.fresh (Nat.le_refl _)
 have hv:Vals (vs.map fun q=>V.ref q.2.1) (es.toList.map (·.key)):=by
  rw [h4,List.map_map]
  refine Paired.of_map (by simp) fun i x v e1 e2=>?_
  rw [List.getElem?_map] at e1 e2
  cases q:vs[i]? with
  | none=>rw [q] at e1; cases e1
  | some p=>rw [q] at e1 e2; simp at e1 e2; subst e1; subst e2; rfl
 have hp:Paired (fun (z:V) (p:List Key×V)=>∃ b,z = .ref b∧H b = some (.tup (p.1.map kV))) (vs.map fun q=>V.ref q.2.1) kvs:=by
  have go:∀ {l:List (List Key×V)} {m:List (List Key×Addr×Value)},KT H l m→Paired (fun (z:V) (p:List Key×V)=>∃ b,z = .ref b∧H b = some (.tup (p.1.map kV))) (m.map fun q=>V.ref q.2.1) l:=by
   intro l m q
   induction q with
   | nil=>exact .nil
   | cons hq t ih=>exact .cons ⟨_,rfl,hq.2.1⟩ ih
  exact go r
 refine ⟨.ref s.heap.objs.size,_,I.laid (t':=tk) (o:=.lst (vs.map fun q=>V.ref q.2.1)) kp (Nat.le_refl _) ⟨by rw [hp.length]; exact z,_,c,hv,ga⟩,rfl,k _ _ nl hp⟩
end L2
set_option maxRecDepth 100000
namespace L2
open PySem PySem.Spec PyProof.Rows Geo PySem.W
section
variable {prog:Program} {w:World} {A:Around} {E:Value→Shared→Prop} {s:Shared}
theorem hint_items {r:Addr} {Q:Bool→Shared→Prop} (hT:s.TypeIs (.ref r) "dict_items") (h:Q false s):wpAny (model prog w) A (Builtin.List.listLengthHint (.ref r)) Q E s:=by
 unfold Builtin.List.listLengthHint; refine wpAny_bind (wpAny_specialOf hT (PySem.F.slot_dict_items_len).lookup ?_)
 generalize hid:("dict_items.__len__":String) = id0; wp_delta
 rw [show splitId id0 = some ("dict_items","__len__") from by subst hid; decide +kernel]; subst hid
 refine wpAny_bind (wpAny_isInstance (T:="dict_items") (b:=true) hT (by (rw [isSubtype_type]); kernel_rfl) ?_)
 refine wpAny_ite_split (fun hab=>absurd hab (by decide)) (fun _=>wpAny_ite_split (fun _=>wpAny_bind (wpAny_typeOf hT (wpAny_pure h))) (fun hab=>absurd (by decide +kernel) hab))
abbrev ItSt (h:Heap) (it d:Addr) (i n ep:Nat) (f0:Value) (fl:Bool) (ok ov:Value):Prop :=
 h.get? it = some { cls:=.type "dict_itemiterator",dict:=none,data:=.fields #[f0,.bool fl,.ref d,.int i 0,.int n 0,.int ep 0,ok,ov],slots:=#[] }
theorem alive {a:Addr} {Q:Option Obj→Shared→Prop} (h:Q (s.heap.get? a) s):wpAny (model prog w) A (loadIfAlive a) Q E s:=fun Γ p _=>by
 unfold loadIfAlive; rw [Sem.wp_loadIfAlive]; exact (Sem.wp_pure ..).mpr h
theorem next_out {it d T:Addr} {i ep:Nat} {od oT:Obj} {es:Array DictEntry} {fl:Bool} {ok ov:Value} {Q:Option Value→Shared→Prop} (hit:ItSt s.heap it d i es.size ep (rawInt T) fl ok ov) (hod:s.heap.get? d = some od) (hdd:od.data = .dict es ep) (hlt:i < es.size) (hT':s.heap.get? T = some oT) (nT:T ≠ it)
  (hQ:∀ h',ItSt h' it d (i+1) es.size ep (rawInt T) true ok ov→h'.get? s.heap.objs.size = some { cls:=.type "tuple",data:=.seq #[es[i].key,es[i].val] }→(∀ b o,b ≠ it→s.heap.get? b = some o→h'.get? b = some o)→Q (some (.ref s.heap.objs.size)) { s with heap:=h' }) :
  wpAny (model prog w) A (pyNext (.ref it)) Q E s:=by
 have hT:s.TypeIs (.ref it) "dict_itemiterator":=⟨_,hit,rfl⟩
 have hil:it < s.heap.objs.size:=Heap.lt_size hit
 unfold pyNext
 refine wpAny_bind (wpAny_attempt (wpAny_callSpecial?_slot (name:=Str.ofString "__next__") hT (F.slot_dict_itemiterator_next) (wpAny_call_entry (F.slot_dict_itemiterator_next) hT (F.entry_dict_itemiterator_next) ?_ (F.args_dict_itemiterator_next_1 _))))
 refine wpAny_bind (wpAny_pure (wpAny_bind (wpAny_bind ?_)))
 (first | refine wpAny_bind (wpAny_typeNameOfWhole_itemiter hT (wpAny_pure ?_)) | refine wpAny_bind (wpAny_typeNameOf_itemiter hT (wpAny_pure ?_)))
 refine wpAny_bind (wpAny_fieldsOf hit rfl ?_); simp only [show Builtin.Dict_items.ownsTuple "dict_itemiterator" = true by decide,if_true]
 show wpAny _ _ (if (Value.ref d == Value.none) = true then _ else _) _ _ s; rw [if_neg (show ¬ ((Value.ref d == Value.none) = true) from Bool.false_ne_true)]
 refine wpAny_bind (wpAny_pure (wpAny_bind (wpAny_dictEntries hod hdd ?_))); rw [if_neg (by simp)]
 refine wpAny_bind (wpAny_pure (wpAny_bind (wpAny_dictEpoch hod hdd ?_))); rw [if_neg (by simp)]; refine wpAny_pure ?_
 simp only [show ¬ ((i:Int) < 0) from by omega,if_false,Int.toNat_natCast,Array.getElem?_eq_getElem hlt]; refine wpAny_bind ?_
 (first | refine wpAny_bind (wpAny_typeNameOfWhole_itemiter hT (wpAny_pure ?_)) | refine wpAny_bind (wpAny_typeNameOf_itemiter hT (wpAny_pure ?_)))
 (refine wpAny_bind (wpAny_isOneOf_itemiter hT ?_))
 show wpAny _ _ (setField (.ref it) 3 (rawInt ((i:Int)+1)) >>= _) _ _ s
 refine wpAny_bind (wpAny_setField_rec hit (by simp) fun h1 he1 hs1=>?_)
 replace he1:ItSt h1 it d (i+1) es.size ep (rawInt T) fl ok ov:=by
  have e:((i+1:Nat):Int) = (i:Int)+1:=by omega
  unfold ItSt; rw [e]; simpa [rawInt] using he1
 have hT1:Shared.TypeIs { s with heap:=h1 } (.ref it) "dict_itemiterator":=⟨_,he1,rfl⟩
 refine wpAny_bind (wpAny_holding (wpAny_bind (wpAny_isOneOf_itemiter hT1 (wpAny_bind (wpAny_isOneOf_itemiter hT1 ?_)))))
 show wpAny _ _ (Builtin.Dict_items.pairFromOwner (.ref it) 6 es[i].key es[i].val) _ _ { s with heap:=h1 }; unfold Builtin.Dict_items.pairFromOwner
 refine wpAny_bind (wpAny_newTuple ?_)
 have z1:h1.objs.size = s.heap.objs.size:=hs1.1
 have he2:ItSt (h1.push { cls:=.type "tuple",data:=.seq #[es[i].key,es[i].val] }) it d (i+1) es.size ep (rawInt T) fl ok ov:=Heap.get?_push_of_some _ he1
 have k2:∀ b o,b ≠ it→s.heap.get? b = some o→(h1.push { cls:=.type "tuple",data:=.seq #[es[i].key,es[i].val] }).get? b = some o:=fun b o hb e=>Heap.get?_push_of_some _ (hs1.extBut b o hb e)
 have t2:(h1.push { cls:=.type "tuple",data:=.seq #[es[i].key,es[i].val] }).get? s.heap.objs.size = some { cls:=.type "tuple",data:=.seq #[es[i].key,es[i].val] }:=by rw [← z1]; exact Heap.get?_push_size _ rfl
 show wpAny _ _ (Builtin.Dict_items.ownedTupleIsFree (.ref it) >>= _) _ _ { s with heap:=h1.push { cls:=.type "tuple",data:=.seq #[es[i].key,es[i].val] } }
 rw [z1]
 generalize h1.push { cls:=.type "tuple",data:=.seq #[es[i].key,es[i].val] } = h2 at he2 k2 t2 ⊢
 refine wpAny_bind ?_; unfold Builtin.Dict_items.ownedTupleIsFree
 refine wpAny_bind (wpAny_field he2 rfl (x:=rawInt T) rfl ?_)
 show wpAny _ _ (loadIfAlive (T:Int).toNat >>= _) _ _ _
 refine wpAny_bind (alive ?_)
 rw [Int.toNat_natCast]
 have hT2:({ s with heap:=h2 }:Shared).heap.get? T = some oT:=k2 T oT nT hT'
 rw [hT2]
 show wpAny _ _ (field (.ref it) 1 >>= _) _ _ _
 refine wpAny_bind (wpAny_field he2 rfl (x:=.bool fl) rfl ?_)
 dsimp only
 have tail:∀ h3:Heap,ItSt h3 it d (i+1) es.size ep (rawInt T) true ok ov→h3.get? s.heap.objs.size = some { cls:=.type "tuple",data:=.seq #[es[i].key,es[i].val] }→(∀ b o,b ≠ it→s.heap.get? b = some o→h3.get? b = some o)→Q (some (.ref s.heap.objs.size)) { s with heap:=h3 }:=fun h3 a1 a2 a3=>hQ h3 a1 a2 a3
 cases fl with
 | true =>
  rw [if_neg (by decide)]
  refine wpAny_pure ?_
  rw [if_neg Bool.false_ne_true]
  exact wpAny_pure (wpAny_pure ⟨_,rfl,wpAny_pure (tail h2 he2 t2 k2)⟩)
 | false =>
  rw [if_pos (by decide)]
  refine wpAny_bind (wpAny_setField_rec he2 (by simp) fun h3 he3 hs3=>wpAny_pure ?_)
  rw [if_neg Bool.false_ne_true]
  exact wpAny_pure (wpAny_pure ⟨_,rfl,wpAny_pure (tail h3 he3 (hs3.extBut _ _ (Nat.ne_of_gt hil) t2) fun b o hb e=>hs3.extBut b o hb (k2 b o hb e))⟩)
theorem end_item {it d:Addr} {i ep:Nat} {od:Obj} {es:Array DictEntry} {f0:Value} {fl:Bool} {ok ov:Value} {Q:Option Value→Shared→Prop} (hh:A.handled = none) (hit:ItSt s.heap it d i es.size ep f0 fl ok ov) (hod:s.heap.get? d = some od) (hdd:od.data = .dict es ep) (hge:es.size≤i)
  (hQ:∀ h',Heap.ExtBut it s.heap h'→Q none { s with heap:=h' }):wpAny (model prog w) A (pyNext (.ref it)) Q E s:=by
 have hT:s.TypeIs (.ref it) "dict_itemiterator":=⟨_,hit,rfl⟩
 unfold pyNext
 refine wpAny_bind (wpAny_attempt (wpAny_callSpecial?_slot (name:=Str.ofString "__next__") hT (F.slot_dict_itemiterator_next) (wpAny_call_entry (F.slot_dict_itemiterator_next) hT (F.entry_dict_itemiterator_next) ?_ (F.args_dict_itemiterator_next_1 _))))
 refine wpAny_bind (wpAny_pure (wpAny_bind (wpAny_bind ?_)))
 (first | refine wpAny_bind (wpAny_typeNameOfWhole_itemiter hT (wpAny_pure ?_)) | refine wpAny_bind (wpAny_typeNameOf_itemiter hT (wpAny_pure ?_)))
 refine wpAny_bind (wpAny_fieldsOf hit rfl ?_); simp only [show Builtin.Dict_items.ownsTuple "dict_itemiterator" = true by decide,if_true]
 show wpAny _ _ (if (Value.ref d == Value.none) = true then _ else _) _ _ s; rw [if_neg (show ¬ ((Value.ref d == Value.none) = true) from Bool.false_ne_true)]
 refine wpAny_bind (wpAny_pure (wpAny_bind (wpAny_dictEntries hod hdd ?_))); rw [if_neg (by simp)]
 refine wpAny_bind (wpAny_pure (wpAny_bind (wpAny_dictEpoch hod hdd ?_))); rw [if_neg (by simp)]; refine wpAny_pure ?_
 simp only [show ¬ ((i:Int) < 0) from by omega,if_false,Int.toNat_natCast,Array.getElem?_eq_none hge]; refine wpAny_bind ?_
 (first | refine wpAny_bind (wpAny_typeNameOfWhole_itemiter hT (wpAny_pure ?_)) | refine wpAny_bind (wpAny_typeNameOf_itemiter hT (wpAny_pure ?_)))
 show wpAny _ _ (setField (.ref it) 2 .none >>= _) _ _ s; refine wpAny_bind (wpAny_setField hit rfl (by simp) ?_)
 show wpAny _ _ (newExc (.type "StopIteration") [] >>= _) _ _ _; refine wpAny_bind ?_; simp only [newExc,newTuple]
 refine wpAny_bind (wpAny_newObj_type ?_ (by size_fits)); refine wpAny_bind (m:=firstArgMember _ _) (wpAny_of_eq (a:=Value.none) (by first | rfl | (simp only [firstArgMember]; rfl)) ?_)
 refine wpAny_newObj_type ?_ (by size_fits); simp only [raiseNew]; refine wpAny_bind (wpAny_handled ?_)
 rw [show A.in1.handled = none from hh]; refine wpAny_bind (wpAny_pure (wpAny_throw ?_))
 refine wpAny_bind (wpAny_isInstance (T:="StopIteration") (b:=true) ⟨_,Heap.get?_push_size _ rfl,rfl⟩ isSubtype_stop (wpAny_pure (hQ _ (((Heap.SameBut.update ..).extBut.push _).push _))))
def TupE {K:Type} [DecidableEq K] (knd:KeyKind prog w K) (h0 h:Heap) (S it:Addr) (v:Value) (p:K×Value):Prop:=∃ T key,v = .ref T∧T ≠ S∧T ≠ it∧h0.objs.size≤T∧knd.is p.1 key = true∧h.get? T = some { cls:=.type "tuple",data:=.seq #[key,p.2] }
theorem feed_items {K:Type} [DecidableEq K] {knd:KeyKind prog w K} {it S d:Addr} {ep:Nat} {od:Obj} {es:Array DictEntry} {kvs:List (K×Value)} {h0:Heap} (hh:A.handled = none) (hS:h0.objs.size≤S) (hi:h0.objs.size≤it) (hne:it ≠ S) (hod:h0.get? d = some od) (hdd:od.data = .dict es ep)
  (hx:od.ExactDict) (hk:KeysOf knd es) (hp:Pairs knd es.toList kvs) (hn:(kvs.map (·.1)).Nodup) :
  Feed prog w A it S es.size (fun i acc h=>(∀ b o,h0.get? b = some o→h.get? b = some o)∧(∃ f0 fl ok ov,ItSt h it d i es.size ep f0 fl ok ov∧((i = 0∧f0 = .none∧fl = false)∨∃ (T:Addr) (o:Obj),f0 = rawInt T∧h.get? T = some o∧T ≠ S∧T ≠ it))∧Paired (TupE knd h0 h S it) acc (kvs.take i)∧acc.Nodup)
   (fun acc h=>(∀ b o,h0.get? b = some o→h.get? b = some o)∧Paired (TupE knd h0 h S it) acc kvs∧acc.Nodup) where
 off:=fun i acc h h' ⟨k,⟨f0,fl,ok,ov,hit,hf⟩,e,nd⟩ kh=>⟨fun b o eb=>kh b o (Nat.ne_of_lt (Nat.lt_of_lt_of_le (Heap.lt_size eb) hS)) (k b o eb),⟨f0,fl,ok,ov,kh it _ hne hit,hf.imp id fun ⟨T,o,e1,e2,e3,e4⟩=>⟨T,o,e1,kh T o e3 e2,e3,e4⟩⟩,Paired.mapP e fun _ _ ⟨T,q,t1,t2,t3,t4,t5,t6⟩=>⟨T,q,t1,t2,t3,t4,t5,kh T _ t2 t6⟩,nd⟩
 item:=fun i acc s Q E hlt ⟨k,⟨f0,fl,ok,ov,hit,hf⟩,e,nd⟩ ⟨oS,hSo⟩ hQ=>by
  have nd':(acc++[Value.ref s.heap.objs.size]).Nodup:=by
   rw [List.nodup_append]
   refine ⟨nd,by simp,fun u hu v hv=>?_⟩
   rw [List.mem_singleton] at hv; subst hv
   intro eu; subst eu
   obtain ⟨j,hj⟩:=List.mem_iff_getElem?.mp hu
   obtain ⟨p,_,T,q,t1,_,_,_,_,t6⟩:=Pair.get e hj
   injection t1 with t1; subst t1
   exact absurd (Heap.lt_size t6) (Nat.lt_irrefl _)
  have lS:S < s.heap.objs.size:=Heap.lt_size hSo
  have li:it < s.heap.objs.size:=Heap.lt_size hit
  have l0:h0.objs.size≤s.heap.objs.size:=Nat.le_trans hi (Nat.le_of_lt li)
  have hl:es.size = kvs.length:=by rw [← hp.length]; simp
  have hlt':i < kvs.length:=by omega
  obtain ⟨⟨kk,vv⟩,hx'⟩:∃ p,kvs[i]? = some p:=⟨kvs[i],by simp [hlt']⟩
  have fin:∀ h' key,(∀ b o,b ≠ it→s.heap.get? b = some o→h'.get? b = some o)→knd.is kk key = true→h'.get? s.heap.objs.size = some { cls:=.type "tuple",data:=.seq #[key,vv] }→Paired (TupE knd h0 h' S it) (acc++[.ref s.heap.objs.size]) (kvs.take (i+1)):=fun h' key kp hy g=>by
   rw [List.take_add_one,hx']
   exact Pair.append (Paired.mapP e fun _ _ ⟨T,q,t1,t2,t3,t4,t5,t6⟩=>⟨T,q,t1,t2,t3,t4,t5,kp T _ t3 t6⟩) (.cons ⟨_,key,rfl,Nat.ne_of_gt lS,Nat.ne_of_gt li,l0,hy,g⟩ .nil)
  obtain ⟨hkey,hval⟩:=hp.get? (i:=i) (e:=es[i]) (by simp [hlt]) hx'
  rcases hf with ⟨rfl,rfl,rfl⟩ | ⟨T,o,rfl,e2,e3,e4⟩
  ·have hit0:IsItemIter s.heap it d 0 kvs.length ep ok ov:=by rw [← hl]; exact hit
   refine wpAny_pyNext_items_item hit0 (⟨od,es,k d od hod,hx,hdd,hk,hp,hn⟩:s.heap.DictAt knd d kvs ep) hx' fun key h' a0 a1 a2 a3 a4=>?_
   refine hQ _ h' s.toks ⟨fun b o eb=>a4 b o (Nat.ne_of_lt (Nat.lt_of_lt_of_le (Heap.lt_size eb) hi)) (k b o eb),⟨_,_,_,_,by rw [hl]; exact a1,.inr ⟨_,_,rfl,a2,Nat.ne_of_gt lS,Nat.ne_of_gt li⟩⟩,fin h' key a4 a0 a2,nd'⟩ fun o eo=>a4 S o (Ne.symm hne) eo
  ·refine next_out hit (k d od hod) hdd hlt e2 e4 fun h' a1 a2 a3=>?_
   exact hQ _ h' s.toks ⟨fun b o eb=>a3 b o (Nat.ne_of_lt (Nat.lt_of_lt_of_le (Heap.lt_size eb) hi)) (k b o eb),⟨_,_,_,_,a1,.inr ⟨T,o,rfl,a3 T o e4 e2,e3,e4⟩⟩,fin h' _ a3 hkey (by rw [← hval]; exact a2),nd'⟩ fun o eo=>a3 S o (Ne.symm hne) eo
 done:=fun acc s Q E ⟨k,⟨f0,fl,ok,ov,hit,hf⟩,e,nd⟩ hQ=>by
  have hl:es.size = kvs.length:=by rw [← hp.length]; simp
  refine end_item hh hit (k d od hod) hdd (Nat.le_refl _) fun h' eb=>?_
  refine hQ h' s.toks ⟨fun b o e'=>eb b o (Nat.ne_of_lt (Nat.lt_of_lt_of_le (Heap.lt_size e') hi)) (k b o e'),?_,nd⟩ fun o eo=>eb S o (Ne.symm hne) eo
  rw [List.take_of_length_le (by omega)] at e
  exact Paired.mapP e fun _ _ ⟨T,q,t1,t2,t3,t4,t5,t6⟩=>⟨T,q,t1,t2,t3,t4,t5,eb T _ t3 t6⟩
end
theorem Inv.track {X:Cx} {pins:List (Addr×Obj)} {σ:St} {H:Hp} {s:Shared} {T:Addr} {o:HO} {ob:Obj} (I:Inv X pins σ H s) (f:FpOk X pins H T) (hob:s.heap.get? T = some ob) (new:ObjOk X.prog X.w (upd H T o) s.heap T o):Inv X pins σ (upd H T o) s:=by
 have neT:∀ b u,H b = some u→b ≠ T:=fun b u e=>ne_of_none e f.1
 have:=I.step (g':=s.gens) (d':=s.drawn) (t':=s.toks) (h':=s.heap) (H':=upd H T o) (ch:=[T]) (fun b hb=>by
   obtain ⟨f0,f1,f2,f3,f4,f5⟩:=f
   rw [List.mem_singleton] at hb; subst hb
   exact ⟨f3,f1,f4,f5⟩) (fun b o _ _ _ e _=>e) (fun b o _ _ _ e _=>⟨o.slots,e⟩) (fun b o hb _ n=>by rw [upd_ne (fun z=>hb (by simp [z]))]; exact n) (fun b o _ e=>⟨o,e⟩)
  (fun b xs e=>by rw [upd_ne (neT b _ e)]; exact e) (fun b ob u e=>by rw [upd_ne (neT b _ e)]; exact e) (fun b ps e=>⟨#[],by rw [upd_ne (neT b _ e),e]; simp⟩) (fun m hm=>hm) (fun b u e=>?_) I.bare
 ·exact this
 ·by_cases hb:b = T
  ·subst hb; rw [upd_same] at e; cases e; exact new
  ·rw [upd_ne hb] at e
   exact (I.hok b u e).stay (fun c v _ q=>q) (fun c q=>by rw [upd_ne (neT c _ q)]; exact q) fun c xs q=>by rw [upd_ne (neT c _ q)]; exact q
theorem track_tups {X:Cx} {pins:List (Addr×Obj)} {σ:St} {s:Shared} {acc:List Value} {kvs:List (Int×V)}
  (hp:Paired (fun (v:Value) (p:Int×V)=>∃ T key u,v = .ref T∧s.heap.get? T = some { cls:=.type "tuple",data:=.seq #[key,u] }∧RelV (.int p.1) key∧RelV p.2 u) acc kvs):∀ {H:Hp},Inv X pins σ H s→acc.Nodup→(∀ T,Value.ref T ∈ acc→FpOk X pins H T) →
  ∃ H' zs,Inv X pins σ H' s∧Same H H'∧(∀ b,Value.ref b ∉ acc→H' b = H b)∧Vals zs acc∧Paired (fun (z:V) (p:Int×V)=>∃ b,z = .ref b∧H' b = some (.tup [.int p.1,p.2])) zs kvs:=by
 induction hp with
 | nil=>intro H I _ _; exact ⟨H,[],I,Same.refl H,fun _ _=>rfl,.nil,.nil⟩
 | @cons v p acc kvs h t ih =>
  intro H I nd hf
  obtain ⟨T,key,u,rfl,g,r1,r2⟩:=h
  obtain ⟨nd1,nd2⟩:=List.nodup_cons.mp nd
  have f:=hf T (by simp)
  have I1:=I.track (o:=.tup [.int p.1,p.2]) f g ⟨by show 2≤sizeLine; decide,[key,u],.cons r1 (.cons r2 .nil),⟨_,g,rfl,_,rfl⟩⟩
  obtain ⟨H',zs,I',s',k',v',t'⟩:=ih I1 nd2 (fun T' hT'=>by
   have f':=hf T' (by simp [hT'])
   refine ⟨?_,f'.2⟩
   rw [upd_ne (fun e=>nd1 (by rw [← e]; exact hT'))]; exact f'.1)
  have sT:Same H (upd H T (.tup [.int p.1,p.2])):=same_upd (Same.refl H) f.1
  refine ⟨H',.ref T :: zs,I',sT.trans s',fun b hb=>?_,.cons rfl v',.cons ⟨T,rfl,s' _ _ upd_same⟩ t'⟩
  rw [k' b (fun z=>hb (by simp [z])),upd_ne (fun e=>hb (by simp [e]))]
theorem list_items {X:Cx} {pins:List (Addr×Obj)} {σ:St} {H:Hp} {s:Shared} {E:Value→Shared→Prop} {a:Addr} {kvs:List (Int×V)} {Q:VK} (hh:X.A.handled = none) (I:Inv X pins σ H s) (ha:H a = some (.dK (kvs.map fun p=>((Sum.inl p.1:Key),p.2))))
  (k:∀ l zs H',H l = none→Same H H'→H' l = some (.lst zs)→Paired (fun (z:V) (p:Int×V)=>∃ b,z = .ref b∧H' b = some (.tup [.int p.1,p.2])) zs kvs→Q (.ref l) H') :
  wpAny (model X.prog X.w) X.A (call (.builtin "dict.items") [.ref a]) (fun v s1=>wpAny (model X.prog X.w) X.A (call (.type "list") [v]) (EP X pins σ Q) E s1) E s:=by
 obtain ⟨z,y,vs,rel,o,es,ep,ho,hx,hd,hk,hp,hn⟩:=(show ObjOk X.prog X.w H s.heap a (.dK _) from I.hok a _ ha)
 have dd:s.heap.DictOf (mixKind X.prog X.w) a vs:=⟨o,es,ep,ho,hx,hd,hk,hp,hn⟩
 refine call_meetsIn (PySem.F.slot_dict_items) dd.typeIs (PySem.F.entry_dict_items) (PySem.F.args_dict_items_1 _) (meets_dict_items (mixKind X.prog X.w) a y) ⟨⟨vs,dd⟩,?_⟩
 have la:a < s.heap.objs.size:=Heap.lt_size ho
 have hl:es.size = vs.length:=by rw [← hp.length]; simp
 have hl2:vs.length = kvs.length:=by have:=rel.length; simp at this; omega
 have gv:(s.heap.push { cls:=.type "dict_items",data:=.fields #[.ref a] }).get? s.heap.objs.size = some { cls:=.type "dict_items",data:=.fields #[.ref a] }:=Heap.get?_push_size _ rfl
 have ps:(s.heap.push { cls:=.type "dict_items",data:=.fields #[.ref a] }).objs.size = s.heap.objs.size+1:=Heap.size_push ..
 have go:(s.heap.push { cls:=.type "dict_items",data:=.fields #[.ref a] }).get? a = some o:=Heap.get?_push_of_some _ ho
 refine call_list_feed (s:={ s with heap:=s.heap.push { cls:=.type "dict_items",data:=.fields #[.ref a] } }) (T:="dict_items") (n:=es.size) (oI:={ cls:=.type "dict_itemiterator",data:=.fields #[.none,.bool false,.ref a,.int 0 0,.int es.size 0,.int ep 0,.none,.none] }) rfl hh ⟨_,gv,rfl⟩ (by decide) (by decide)
  (by simp at z; omega) (fun A E s' Q hT hq=>hint_items hT hq)
  (fun A E s' Q kp hq=>wpAny_pyIter_items (knd:=mixKind X.prog X.w) (v:=s.heap.objs.size) (d:=a) (kvs:=vs) (ep:=ep) ⟨_,kp _ _ gv,rfl,rfl⟩ ⟨o,es,kp a o go,hx,hd,hk,hp,hn⟩ (by rw [← hl]; exact hq))
  (fun A' hA=>feed_items (knd:=mixKind X.prog X.w) (kvs:=vs) (h0:=s.heap.push { cls:=.type "dict_items",data:=.fields #[.ref a] }) hA (Nat.le_refl _) (Nat.le_succ _) (Nat.succ_ne_self _) go hd hx hk hp hn)
  (fun h kp g=>⟨kp,⟨_,_,_,_,g,.inl ⟨rfl,rfl,rfl⟩⟩,.nil,List.nodup_nil⟩) fun h' tk acc c fin la ga=>?_
 dsimp only at fin ga ⊢
 obtain ⟨kp,tps,nd⟩:=fin
 have kp':∀ b o,s.heap.get? b = some o→h'.get? b = some o:=fun b o e=>kp b o (Heap.get?_push_of_some _ e)
 have I1:Inv X pins σ H { s with heap:=h',toks:=tk }:=I.kept kp'
 have big:∀ b,s.heap.objs.size≤b→FpOk X pins H b:=fun b hb=>I.fpOk hb (I.hok.fresh hb)
 have hp2:Paired (fun (v:Value) (p:Int×V)=>∃ T key u,v = .ref T∧h'.get? T = some { cls:=.type "tuple",data:=.seq #[key,u] }∧RelV (.int p.1) key∧RelV p.2 u) acc kvs:=by
  refine Paired.of_map (by omega) fun i v p e1 e2=>?_
  obtain ⟨q,q1,T,key,t1,_,_,_,t5,t6⟩:=Pair.get tps e1
  obtain ⟨q',q1',r1,r2⟩:=Pair.get rel (i:=i) (x:=((Sum.inl p.1:Key),p.2)) (by rw [List.getElem?_map,e2]; rfl)
  rw [q1] at q1'; cases q1'
  refine ⟨T,key,q.2,t1,t6,?_,r2⟩
  rw [← r1] at t5
  rcases keyIs_shape (show keyIs (Sum.inl p.1) key = true from t5) with ⟨i',t,e3,e4⟩ | ⟨x,t,e3,e4⟩
  ·injection e3 with e3; subst e3; exact ⟨t,e4⟩
  ·cases e3
 have fin':∀ T,Value.ref T ∈ acc→s.heap.objs.size+1≤T∧T ≠ s.heap.objs.size+1:=fun T hT=>by
  obtain ⟨j,hj⟩:=List.mem_iff_getElem?.mp hT
  obtain ⟨q,_,T',key,t1,t2,_,t4,_,_⟩:=Pair.get tps hj
  injection t1 with t1; subst t1
  rw [ps] at t2 t4
  exact ⟨t4,t2⟩
 obtain ⟨H',zs,I',s',k',v',t'⟩:=track_tups hp2 I1 nd fun T hT=>big T (by have:=(fin' T hT).1; omega)
 rw [ps] at ga
 have nl:H (s.heap.objs.size+1) = none:=I.hok.fresh (Nat.le_succ _)
 have nl':H' (s.heap.objs.size+1) = none:=by rw [k' _ (fun hT=>(fin' _ hT).2 rfl)]; exact nl
 have fl:FpOk X pins H' (s.heap.objs.size+1):=⟨nl',(big _ (Nat.le_succ _)).2⟩
 have lz:=v'.length
 have I2:=I'.track (o:=.lst zs) fl ga ⟨by simp at z; omega,acc,c,v',ga⟩
 have sl:=same_upd (o:=.lst zs) (Same.refl H') nl'
 refine ⟨.ref (s.heap.objs.size+1),_,I2,by rw [ps]; rfl,k _ zs _ nl (s'.trans sl) upd_same (Paired.mapP t' fun _ _ ⟨b,e1,e2⟩=>⟨b,e1,sl _ _ e2⟩)⟩
def tListItems (to:TE):TE:=fun σ H Q=>to σ H fun x H1=>∃ a kvs,x = .ref a∧H1 a = some (.dK (kvs.map fun (p:Int×V)=>((Sum.inl p.1:Key),p.2))) ∧
 ∀ l zs H',H1 l = none→Same H1 H'→H' l = some (.lst zs)→Paired (fun (z:V) (p:Int×V)=>∃ b,z = .ref b∧H' b = some (.tup [.int p.1,p.2])) zs kvs→Q (.ref l) H'
theorem pe_listitems {X:Cx} {o:Expr} {to:TE} {p1 apos cpos pos1:Pos} (hh:X.A.handled = none) (hg1:Gl X "list") (hm1:X.mg "list" = none) (ho:PE X o to)
  (hbase:attributeBase o "items" X.env (eval o X.env) = eval o X.env:=by rfl) (hline:(apos.endLine == cpos.line) = true:=by rfl) :
  PE X (.Call (.Name "list" p1) [.Call (.Attribute o "items" apos) [] [] cpos] [] pos1) (tListItems to):=by
 intro pins s σ H Q I h
 refine wpAny_Call_Name_kw (ld_blt I hg1 hm1 (by decide +kernel:bootBuiltins "list" = some (.type "list")) ?_)
 refine callWith_type1 ?_ rfl rfl
 show wpAny _ _ (spliced ((false,eval (.Call (.Attribute o "items" apos) [] [] cpos) X.env) :: [])) _ _ _
 refine Calls.spliced_cons ?_
 refine wpAny_Call_method0_late hbase hline (thn (ho pins s σ H _ I h) fun v s1 ⟨x,H1,I1,r1,a,kvs,ex,ha,k⟩=>?_)
 subst ex
 obtain ⟨h1,h2⟩:=tyV_is (T:="dict") I1 r1 (.inr (.inr (.inl ⟨rfl,.inl ⟨_,ha⟩⟩)))
 obtain rfl:v = Value.ref a:=r1
 refine ⟨"dict","dict.items",PySem.F.plainAttrs_dict,PySem.F.slot_dict_items,PySem.F.type_dict_items,h1,h2,Calls.callWith_builtin rfl (PySem.evalArgs_none ?_)⟩
 exact thn (list_items hh I1 ha k) fun u s2 hu=>Calls.spliced_nil hu
end L2
set_option maxRecDepth 100000
namespace L2
open PySem PySem.Spec PyProof.Rows Geo
def Ite (K:PySem.W.Frag) (l:Addr):It :=
  ⟨fun i H=>∃ xs x,SqL K H l xs∧xs[i]? = some x,
   fun i H v H'=>∃ T,v = .ref T∧H T = none∧∀ xs,SqL K H l xs→∃ x,xs[i]? = some x∧H' = upd H T (.tup [.int (i:Nat),x]),
   fun i H=>∃ xs,SqL K H l xs∧xs.length≤i⟩
theorem turn_enum {P:Program} {w:World} {K:PySem.W.Frag} {elts:List Expr} {kt:Nat} {pt:Pos} {e it l:Addr} (hei:e ≠ it) :
  Turn P w K (.Tuple elts kt pt) (Ite K l) [e,it] e (fun i h=>(∃ old,IsEnum h e it (i:Nat) old)∧h.IsListIter it l i) where
 mem:=by simp
 obj:=fun i h st b hb=>by
  obtain ⟨⟨old,he⟩,⟨o1,e1,c1,d1⟩⟩:=st
  simp only [List.mem_cons,List.not_mem_nil,or_false] at hb
  rcases hb with rfl | rfl
  ·exact ⟨_,he,fun v z=>by have z':Data.fields _ = Data.cell v:=z; cases z'⟩
  ·exact ⟨o1,e1,fun v z=>by rw [d1] at z; cases z⟩
 keep:=fun i h h' st k=>by
  obtain ⟨⟨old,he⟩,h1⟩:=st
  exact ⟨⟨old,k e (by simp) _ he⟩,h1.at fun o q=>k it (by simp) o q⟩
 item:=by
  intro X hP hw hK hc i pins s σ H E I hf st hg
  subst hP hw hK
  obtain ⟨xs,x,q1,hx⟩:=hg
  obtain ⟨its,rv,p,_⟩:=I.list q1
  obtain ⟨u,hu,ru⟩:=rv.get hx
  obtain ⟨⟨old,he⟩,h1⟩:=st
  have l1:it < s.heap.objs.size:=by obtain ⟨_,q,_⟩:=h1; exact Heap.lt_size q
  have l2:e < s.heap.objs.size:=Heap.lt_size he
  refine wpAny_pyNext_enum_item he h1 p.isList (x:=u) (by simpa using hu) hei fun h' ho hit' hT hsz hk=>?_
  refine ⟨.ref s.heap.objs.size,rfl,?_⟩
  refine wpAny_letOwnedTupleGo_enum (s:={ s with heap:=h',toks:=s.toks+1 }) ho fun h'' he' hs'=>?_
  have kk:∀ b v,b ∉ [e,it]→s.heap.get? b = some v→h''.get? b = some v:=fun b v hb q=>by
   simp only [List.mem_cons,List.not_mem_nil,or_false,not_or] at hb
   exact hs'.extBut _ _ hb.1 (hk b v hb.1 hb.2 q)
  have tup:=hs'.extBut _ _ (Nat.ne_of_gt l2) hT
  have I1:Inv X pins σ (upd H s.heap.objs.size (.tup [.int (i:Nat),x])) { s with heap:=h'',toks:=s.toks+1 }:=I.turnedNew (ch:=[e,it]) kk (fun b hb=>hf b hb) (Nat.le_refl _) ⟨by show 2≤sizeLine; decide,[_,u],.cons ⟨_,rfl⟩ (.cons ru .nil),⟨_,tup,rfl,_,rfl⟩⟩
  refine ⟨.ref s.heap.objs.size,_,I1,rfl,⟨s.heap.objs.size,rfl,I.hok.fresh (Nat.le_refl _),fun ys e1=>⟨x,?_,rfl⟩⟩,⟨⟨u,by simpa using he'⟩,hit'.at fun o q=>hs'.extBut _ _ hei.symm q⟩,fun b hb=>?_⟩
  ·rw [I.list_inj e1 q1]; exact hx
  ·have lb:b < s.heap.objs.size:=by
    simp only [List.mem_cons,List.not_mem_nil,or_false] at hb
    rcases hb with rfl | rfl
    ·exact l2
    ·exact l1
   rw [upd_ne (Nat.ne_of_lt lb)]
   exact (hf b hb).1
 done:=by
  intro X hP hw hK hc i pins s σ H E I hf st hg
  subst hP hw hK
  obtain ⟨xs,q1,hl⟩:=hg
  obtain ⟨its,rv,p,_⟩:=I.list q1
  obtain ⟨⟨old,he⟩,h1⟩:=st
  have e1:=rv.length
  refine wpAny_pyNext_enum_end (I.ok.hd hc) he h1 p.isList (by simp; omega) fun h' eb=>⟨rfl,?_⟩
  refine I.turnedL (t':=s.toks) (ch:=[e,it]) (fun b u hb q=>?_) (fun b hb=>hf b hb)
  simp only [List.mem_cons,List.not_mem_nil,or_false,not_or] at hb
  exact eb b u hb.2 q
 self:=fun _ _ _ _ _ st h=>by
  obtain ⟨⟨old,he⟩,_⟩:=st
  exact wpAny_pyIter_enum he h
def iEnum (K:PySem.W.Frag) (ta:TA):TI:=fun σ H R=>ta σ H fun vs H1=>∃ a,vs = [.ref a]∧(∃ xs,SqL K H1 a xs)∧R (Ite K a) H1
theorem boot_enum':bootBuiltins "enumerate" = some (.type "enumerate"):=by decide +kernel
theorem pi_enum {X:Cx} {a:Expr} {ta:TA} {p pos:Pos} {elts:List Expr} {kt:Nat} {pt:Pos} (hg:Gl X "enumerate") (hm:X.mg "enumerate" = none) (ha:PA X [a] ta) (hs:starEach [a] X.env = [(false,eval a X.env)]:=by rfl) :
  PI X (.Tuple elts kt pt) (.Call (.Name "enumerate" p) [a] [] pos) (iEnum X.K ta):=by
 intro pins s σ H R I h
 refine Call_ (ld_blt I hg hm boot_enum' (PyProof.Rows.callWith_type1 (thn (ha pos pins s σ H _ I h) fun us s1 ⟨vs,H1,I1,r1,q1⟩=>?_) hs rfl))
 obtain ⟨l,e,⟨xs,q1⟩,q⟩:=q1
 subst e
 cases r1 with
 | cons r rr =>
  cases rr
  cases r
  obtain ⟨its,rv,p1,_⟩:=I1.list q1
  refine call_enumerate_list p1.isList fun h' he hi hsz hk=>wpAny_pyIter_enum he ?_
  refine ⟨_,[s1.heap.objs.size+1,s1.heap.objs.size],_,_,H1,rfl,I1.kept (t':=s1.toks) hk,turn_enum (Nat.succ_ne_self _),⟨⟨_,he⟩,hi⟩,fun b hb=>?_,q⟩
  have hb':s1.heap.objs.size≤b:=by
   simp only [List.mem_cons,List.not_mem_nil,or_false] at hb
   rcases hb with rfl | rfl <;> omega
  exact I1.fpOk hb' (I1.hok.fresh hb')
theorem for_enum {K:PySem.W.Frag} {a:Addr} {xs:List V} {g:TG} {tb:TS} {D:Ends} {σ:St} {H:Hp} (Pv:Nat→St→Hp→Prop) (h0:Pv 0 σ H) (hl:∀ i σ H,i≤xs.length→Pv i σ H→SqL K H a xs)
  (hs:∀ i x T σ H,xs[i]? = some x→Pv i σ H→H T = none→g (.ref T) σ (upd H T (.tup [.int (i:Nat),x])) fun σ2 H2=>tb { D with nx:=Pv (i+1),ct:=Pv (i+1),bk:=D.nx } σ2 H2) (hd:∀ σ H,Pv xs.length σ H→D.nx σ H) :
  ∃ W:Nat→Nat→St→Hp→Prop,(∃ m,W 0 m σ H)∧∀ i m σ H,W i m σ H →
   ((Ite K a).stop i H∧D.nx σ H)∨((Ite K a).go i H∧∃ N:St→Hp→Prop,(∀ σ' H',N σ' H'→∃ m',m' < m∧W (i+1) m' σ' H')∧∀ x H',(Ite K a).yld i H x H'→g x σ H' fun σ2 H2=>tb { D with nx:=N,ct:=N,bk:=D.nx } σ2 H2):=by
 refine ⟨fun i m σ H=>m = xs.length - i∧i≤xs.length∧Pv i σ H,⟨xs.length,by simp,Nat.zero_le _,h0⟩,?_⟩
 rintro i m σ H ⟨rfl,hi,p⟩
 have q:=hl i σ H hi p
 by_cases hlt:i < xs.length
 ·refine .inr ⟨⟨xs,xs[i],q,by simp [hlt]⟩,Pv (i+1),fun σ' H' p'=>⟨xs.length - (i+1),by omega,rfl,hlt,p'⟩,fun x H' y=>?_⟩
  obtain ⟨T,rfl,nT,hy⟩:=y
  obtain ⟨x',e1,rfl⟩:=hy xs q
  exact hs i x' T σ _ e1 p nT
 ·have e:i = xs.length:=by omega
  subst e
  exact .inl ⟨⟨xs,q,Nat.le_refl _⟩,hd σ H p⟩
end L2
set_option maxRecDepth 100000
namespace L2
open PySem PySem.Spec PyProof.Rows Geo PySem.W STab
section
variable {A:Around} {s:Shared}
end
section
variable {X:Cx}
def rNotInP2 (K:PySem.W.Frag):R2:=fun x y H Q=>∃ a b c d xs us vs ps qs rs,x = .ref a∧y = .ref b∧SqL K H b [.ref c,.ref d]∧SqL K H a xs∧ArePts H xs ps∧SqL K H c us∧ArePts H us qs∧SqL K H d vs∧ArePts H vs rs∧c ≠ d∧c ≠ a∧d ≠ a∧Q (.bl (!(decide (qs = ps) || decide (rs = ps)))) H
theorem op_notInP2 (hu:X.A.units+16 < cLine):OpR X (compareOp .NotIn) (rNotInP2 X.K):=by
 intro pins s σ H x y v u Q I rx ry h
 obtain ⟨a,b,c,d,xs,us,vs,ps,qs,rs,rfl,rfl,hb,ha,hp,hc,hq,hd,hr,cd,ca,da,k⟩:=h
 obtain rfl:=rx
 obtain rfl:=ry
 obtain ⟨is,r0,l0,_⟩:=I.list hb
 obtain ⟨xs',r1,l1,_⟩:=I.list ha
 obtain ⟨us',r2,l2,_⟩:=I.list hc
 obtain ⟨vs',r3,l3,_⟩:=I.list hd
 cases r0 with
 | cons e0 r0 =>
  cases r0 with
  | cons e1 r0 =>
   cases r0
   obtain rfl:=e0
   obtain rfl:=e1
   refine SeqAt.notIn_listAt (fun u=>match u with | .ref z=>if z = c then decide (qs = ps) else decide (rs = ps) | _=>false) l0.isList (fun w hw=>?_) ⟨.bl _,H,I,rfl,?_⟩
   ·have hw':w = .ref c∨w = .ref d:=by simpa using hw
    rcases hw' with e | e
    ·subst e
     dsimp only
     rw [if_pos rfl]
     exact SeqAt.EqAt.of_refs ca (rc_pts (by show X.A.units+1+1 < cLine; omega) l2.isList l1.isList (I.tupsAt r2 hq) (I.tupsAt r1 hp))
    ·subst e
     dsimp only
     rw [if_neg (Ne.symm cd)]
     exact SeqAt.EqAt.of_refs da (rc_pts (by show X.A.units+1+1 < cLine; omega) l3.isList l1.isList (I.tupsAt r3 hr) (I.tupsAt r1 hp))
   ·simp only [List.any_toArray,List.any_cons,List.any_nil,Bool.or_false,if_pos,if_neg (Ne.symm cd)]
    exact k
end
end L2
set_option maxRecDepth 100000
namespace L2
open PySem PySem.Spec PyProof.Rows Geo PySem.W STab SeqAt
theorem op_fdivB {X:Cx}:OpR X (binaryOp .FloorDiv) (rI (fun _ j=>0 < j∧j < 2 ^ 200) fun i j=>.int (i / j)):=opI fun i j _ _ _ _ _ hc q=>by
 have p:(0:Int) < j:=hc.1
 have b:j < 2 ^ 200:=hc.2
 have l:j.natAbs.log2 < 9000:=by
  have:j.natAbs < 2 ^ 200:=by omega
  have:=(Nat.log2_lt (n:=j.natAbs) (k:=200) (by omega)).mpr this
  omega
 exact floordiv_int (by omega) (by rw [Int.fdiv_eq_ediv_of_nonneg i (by omega)]; exact q) (.inl (PyProof.noPylong_of_log2 l))
def firstLt (e lt:Nat→Bool):List Nat→Bool
 | []=>false
 | i :: r=>if e i then firstLt e lt r else lt i
section
variable {prog:Program} {w:World} {A:Around} {R:Result→Shared→Prop} {I S:Addr} {fp wr:List Addr} {n:Nat} {P:Nat→Value→Prop} {St:Nat→Heap→Prop} {Kp:Heap→Prop} {bt:Nat→Nat→Bool}
abbrev two (S:Addr) (v:Value) (c:Nat) (h:Heap):Prop:=h.get? S = some { cls:=.type "list",dict:=none,data:=.seq #[v,v] c,slots:=#[] }
end
section
variable {prog:Program} {w:World} {A:Around} {E:Value→Shared→Prop} {s:Shared} {l:Addr} {xs:Array Value} {bt:Nat→Nat→Bool}
end
section
variable {A:Around} {s:Shared}
def TriAt (h:Heap) (u:Value) (t:Tri):Prop:=∃ (b:Addr) (o:Obj) (a1 a2 a3:Tok) (n:Nat),u = .ref b∧h.get? b = some o∧o.cls = .type "tuple"∧o.data = .seq #[.int t.1 a1,.int t.2.1 a2,.int t.2.2 a3] n
def CntAt (h:Heap) (u:Value) (c:Int×Tri):Prop:=∃ (b:Addr) (o:Obj) (a1:Tok) (v:Value) (n:Nat),u = .ref b∧h.get? b = some o∧o.cls = .type "tuple"∧o.data = .seq #[.int c.1 a1,v] n∧TriAt h v c.2
theorem TriAt.keep {h h':Heap} {u:Value} {t:Tri} (x:TriAt h u t) (k:∀ b o,h.get? b = some o→h'.get? b = some o):TriAt h' u t:=by
 obtain ⟨b,o,a1,a2,a3,n,e,g,c,d⟩:=x; exact ⟨b,o,a1,a2,a3,n,e,k _ _ g,c,d⟩
theorem CntAt.keep {h h':Heap} {u:Value} {c:Int×Tri} (x:CntAt h u c) (k:∀ b o,h.get? b = some o→h'.get? b = some o):CntAt h' u c:=by
 obtain ⟨b,o,a1,v,n,e,g,q,d,t⟩:=x; exact ⟨b,o,a1,v,n,e,k _ _ g,q,d,t.keep k⟩
theorem TriAt.inj {h:Heap} {u:Value} {t t':Tri} (x:TriAt h u t) (y:TriAt h u t'):t = t':=by
 obtain ⟨b,o,a1,a2,a3,n,rfl,g,c,d⟩:=x
 obtain ⟨b',o',a1',a2',a3',n',e',g',c',d'⟩:=y
 cases e'
 rw [g] at g'; cases g'
 rw [d] at d'
 injection d' with d1 _
 have d2:=congrArg Array.toList d1
 simp at d2
 exact Prod.ext d2.1.1 (Prod.ext d2.2.1.1 d2.2.2.1)
end
section
variable {X:Cx} {pins:List (Addr×Obj)} {σ:St} {H:Hp} {s:Shared}
end
end L2
set_option maxRecDepth 100000
namespace Toy
open PySem L2 Geo
def top (i:Nat):Stmt:=PySem.Challenge.pw_hullpart_k05_whole_parted.main.body.getD i (.Pass ⟨0,0,0,0⟩)
abbrev sChk:Stmt:=top 6
abbrev sChks:Stmt:=top 7
abbrev sTurn:Stmt:=top 8
abbrev sReach:Stmt:=top 9
abbrev sWorth:Stmt:=top 10
abbrev sAlong:Stmt:=top 11
abbrev sAcross:Stmt:=top 12
abbrev sGcd:Stmt:=top 13
abbrev sLowest:Stmt:=top 14
abbrev sWeigh:Stmt:=top 15
abbrev sRnd:Stmt:=top 17
abbrev sSide:Stmt:=top 18
abbrev sShut:Stmt:=top 19
abbrev sShares:Stmt:=top 20
abbrev sBetween:Stmt:=top 21
abbrev sOf3:Stmt:=top 22
abbrev sParted:Stmt:=top 25
abbrev sLS:Stmt:=top 26
abbrev sBeside:Stmt:=top 27
abbrev sSteps:Stmt:=top 28
abbrev sLBetween:Stmt:=top 29
abbrev sAdded:Stmt:=top 30
abbrev sWSpot:Stmt:=top 31
abbrev sCell:Stmt:=top 33
abbrev sWhole:Stmt:=top 34
abbrev sNext:Stmt:=top 35
abbrev sPts:Stmt:=top 36
abbrev sCommon:Stmt:=top 37
abbrev sIsLine:Stmt:=top 38
abbrev sAt:Stmt:=top 39
abbrev sIsPart:Stmt:=top 40
abbrev sWeighs:Stmt:=top 41
abbrev sIsSpot:Stmt:=top 42
abbrev sShown:Stmt:=top 43
abbrev sLaw:Stmt:=top 44
structure Txt (mg:Str→Option Value):Prop where
 len:mg "len" = none
 abs:mg "abs" = none
 sorted:mg "sorted" = none
 set:mg "set" = none
 list:mg "list" = none
 reversed:mg "reversed" = none
 range:mg "range" = none
 isinstance:mg "isinstance" = none
 int:mg "int" = none
 bool:mg "bool" = none
 tuple:mg "tuple" = none
 min:mg "min" = none
 max:mg "max" = none
 all:mg "all" = none
 sum:mg "sum" = none
 zip:mg "zip" = none
 any:mg "any" = none
 str:mg "str" = none
 enumerate:mg "enumerate" = none
 valueError:mg "ValueError" = none
 far:∃ t,mg "FARTHEST" = some (.int 1000 t)
 most:∃ t,mg "MOST_POINTS" = some (.int 12 t)
end Toy
set_option maxRecDepth 100000
namespace Toy
open PySem L2 Geo
section
variable {P:Program} {w:World} {K:PySem.W.Frag} {mg:Str→Option Value} {base:Heap}
def spChk:Sp:=fun vs H Q _=>∃ v p,vs = [v]∧IsPt H v p∧Bd p∧Q .non H
theorem scChk:FnScope ["point"] ["point"] (defScope sChk):=⟨rfl,rfl,rfl,by decide +kernel,rfl,by decide +kernel,by decide +kernel⟩
theorem abs_le {i:Int} (h1:-1000≤i) (h2:i≤1000):decide ((1000:Int) < (if i < 0 then -i else i)) = false:=decide_eq_false (by split <;> omega)
theorem ok_chk {f:Addr} {fd:FuncData} (F:Fun K "check_point" "check_point" sChk f fd) (T:Txt mg):FnOk P w K mg base CX0 1 f fd ["point"] spChk:=by
 refine F.ok scChk (fun vs H Q E h=>?_) (fun cdv A outer s H vs Q E hr h=>?_)
 ·obtain ⟨v,p,rfl,_⟩:=h; rfl
 ·obtain ⟨v,p,rfl,hp,hb,k⟩:=h
  obtain ⟨t,hf⟩:=T.far
  obtain ⟨a,rfl,ha⟩:=hp
  refine ⟨_,pss_one (ps_if (PW.pt (pw_or (pt_cmpR op_ne (pe_callB call_len_seq rfl T.len PySem.boot_len (pa_cons (pv 0) pa_nil)) pe_int (nomark _))
   (pw_or (pt_cmpR op_gt (pe_callB call_abs rfl T.abs PyProof.Rows.boot_abs (pa_cons (pe_ix ix_tup (pv 0) pe_int (fun _ _=>rfl)) pa_nil)) (pe_glob (v:=.int 1000) rfl hf ⟨t,rfl⟩) (nomark _))
    (pw_or1 (pt_cmpR op_gt (pe_callB call_abs rfl T.abs PyProof.Rows.boot_abs (pa_cons (pe_ix ix_tup (pv 0) pe_int (fun _ _=>rfl)) pa_nil)) (pe_glob (v:=.int 1000) rfl hf ⟨t,rfl⟩) (nomark _))))))
   pss_never pss_nil),?_⟩
  refine ⟨_,rfl,a,_,rfl,.inr (SqT.of ha),rfl,_,rfl,?_⟩
  refine iteF ?_
  refine ⟨_,rfl,a,_,_,_,rfl,rfl,SqT.of ha,atI_nat (j:=0) rfl,_,rfl,_,_,rfl,rfl,_,rfl,?_⟩
  rw [abs_le hb.1 hb.2.1]
  refine iteF ?_
  refine ⟨_,rfl,a,_,_,_,rfl,rfl,SqT.of ha,atI_nat (j:=1) rfl,_,rfl,_,_,rfl,rfl,_,rfl,?_⟩
  rw [abs_le hb.2.2.1 hb.2.2.2]
  exact iteF k
def spChks (K:PySem.W.Frag):Sp:=fun vs H Q _=>∃ a xs ps,vs = [.ref a]∧SqL K H a xs∧ArePts H xs ps∧ps.length≤12∧(∀ p ∈ ps,Bd p)∧Q .non H
theorem scChks:FnScope ["points","point"] ["points"] (defScope sChks):=⟨rfl,rfl,rfl,by decide +kernel,rfl,by decide +kernel,by decide +kernel⟩
theorem ok_chks {f g:Addr} {fd gd:FuncData} (F:Fun K "check_points" "check_points" sChks f fd) (T:Txt mg) (G:FnOk P w K mg base CX0 1 g gd ["point"] spChk) (bG:Binds K gd ["point"] []) (kG:PySem.W.keepIn K (.ref g) = true) (mG:mg "check_point" = some (.ref g)) :
  FnOk P w K mg base CX0 2 f fd ["points"] (spChks K):=by
 refine F.ok scChks (fun vs H Q E h=>?_) (fun cdv A outer s H vs Q E hr h=>?_)
 ·obtain ⟨a,xs,ps,rfl,_⟩:=h; rfl
 ·obtain ⟨a,xs,ps,rfl,hq,hp,hl,hb,k⟩:=h
  obtain ⟨t,hm⟩:=T.most
  have ln:=hp.length
  refine ⟨_,pss_cons (ps_if (pt_cmpR op_gt (pe_callB call_len_seq rfl T.len PySem.boot_len (pa_cons (pv 0) pa_nil)) (pe_glob (v:=.int 12) rfl hm ⟨t,rfl⟩) (nomark _)) pss_never pss_nil)
   (pss_one (ps_for PassesOwn.never rfl (pi_list (pv 0)) (pg_name (i:=1) scChks.nd rfl (Or.inl rfl)) (pss_one (ps_expr (pe_call G hr rfl mG kG bG .nil pass0 (pa_cons (pv 1) pa_nil)))))),?_⟩
  refine ⟨_,rfl,a,_,rfl,.inl hq,_,_,rfl,rfl,_,rfl,?_⟩
  rw [decide_eq_false (show ¬ (12:Int) < (xs.length:Int) by omega)]
  refine iteF ?_
  refine ⟨_,rfl,a,rfl,⟨_,hq⟩,for_list (K:=K) (a:=a) (xs:=xs) (fun i σ H2=>H2 = H∧∃ v,σ = [some (.ref a),v]) ⟨rfl,none,rfl⟩ (fun i σ H2 _ ⟨e,_⟩=>by rw [e]; exact hq) ?_ ?_⟩
  ·rintro i y σ H2 hi ⟨rfl,v,rfl⟩
   obtain ⟨p,h1,h2⟩:=Pair.get hp hi
   exact ⟨_,rfl,y,p,rfl,h2,hb p (List.mem_of_getElem? h1),rfl,some y,rfl⟩
  ·rintro σ H2 ⟨rfl,v,rfl⟩
   exact k
end
end Toy
set_option maxRecDepth 100000
namespace Toy
open PySem L2 Geo
section
variable {P:Program} {w:World} {K:PySem.W.Frag} {mg:Str→Option Value} {base:Heap}
def IsPtK (K:PySem.W.Frag) (H:Hp) (v:V) (p:Pt):Prop:=∃ a,v = .ref a∧SqT K H a [.int p.1,.int p.2]
theorem _root_.L2.IsPt.k {K:PySem.W.Frag} {H:Hp} {v:V} {p:Pt} (h:IsPt H v p):IsPtK K H v p:=by
 obtain ⟨a,e,h⟩:=h; exact ⟨a,e,SqT.of h⟩
theorem _root_.L2.Same.seqT {K:PySem.W.Frag} {H H':Hp} {a:Addr} {xs:List V} (e:Same H H') (h:SqT K H a xs):SqT K H' a xs:=by
 rcases h with (h | ⟨o,h⟩) | h
 ·exact .inl (.inl (e _ _ h))
 ·exact .inl (.inr ⟨o,e _ _ h⟩)
 ·exact .inr h
theorem IsPtK.same {K:PySem.W.Frag} {H H':Hp} {v:V} {p:Pt} (h:IsPtK K H v p) (s:Same H H'):IsPtK K H' v p:=by
 obtain ⟨a,e,h⟩:=h; exact ⟨a,e,s.seqT h⟩
def spTurn (K:PySem.W.Frag):Sp:=fun vs H Q _=>∃ u v w a b c,vs = [u,v,w]∧IsPt H u a∧IsPt H v b∧IsPtK K H w c∧Bw a∧Bw b∧Bw c∧Q (.int (turn a b c)) H
theorem scTurn:FnScope ["tail","head","point"] ["tail","head","point"] (defScope sTurn):=⟨rfl,rfl,rfl,by decide +kernel,rfl,by decide +kernel,by decide +kernel⟩
theorem ok_turn {f:Addr} {fd:FuncData} (F:Fun K "turn" "turn" sTurn f fd):FnOk P w K mg base CX0 1 f fd ["tail","head","point"] (spTurn K):=by
 refine F.ok scTurn (fun vs H Q E h=>?_) (fun cdv A outer s H vs Q E hr h=>?_)
 ·obtain ⟨u,v,w,a,b,c,rfl,_⟩:=h; rfl
 ·obtain ⟨u,v,w,a,b,c,rfl,⟨p,rfl,hp⟩,⟨q,rfl,hq⟩,⟨r,rfl,hr'⟩,ba,bb,bc,k⟩:=h
  refine ⟨_,pss_one (ps_ret (pe_op op_sub
   (pe_op op_mul (pe_op op_sub (pe_ix ix_tup (pv 1) pe_int (fun _ _=>rfl)) (pe_ix ix_tup (pv 0) pe_int (fun _ _=>rfl))) (pe_op op_sub (pe_ix ix_tup (pv 2) pe_int (fun _ _=>rfl)) (pe_ix ix_tup (pv 0) pe_int (fun _ _=>rfl))))
   (pe_op op_mul (pe_op op_sub (pe_ix ix_tup (pv 1) pe_int (fun _ _=>rfl)) (pe_ix ix_tup (pv 0) pe_int (fun _ _=>rfl))) (pe_op op_sub (pe_ix ix_tup (pv 2) pe_int (fun _ _=>rfl)) (pe_ix ix_tup (pv 0) pe_int (fun _ _=>rfl)))))),?_⟩
  have m1:CMul (b.1 - a.1) (c.2 - a.2):=mulW _ _ _ ba.1 ba.2.1 bb.1 bb.2.1
  have m2:CMul (b.2 - a.2) (c.1 - a.1):=mulW _ _ _ ba.2.2.1 ba.2.2.2 bb.2.2.1 bb.2.2.2
  refine ⟨_,rfl,q,_,_,_,rfl,rfl,SqT.of hq,atI_nat (j:=0) rfl,_,rfl,p,_,_,_,rfl,rfl,SqT.of hp,atI_nat (j:=0) rfl,_,_,rfl,rfl,?_⟩
  refine ⟨_,rfl,r,_,_,_,rfl,rfl,hr',atI_nat (j:=1) rfl,_,rfl,p,_,_,_,rfl,rfl,SqT.of hp,atI_nat (j:=1) rfl,_,_,rfl,rfl,?_⟩
  refine ⟨_,_,rfl,rfl,m1,?_⟩
  refine ⟨_,rfl,q,_,_,_,rfl,rfl,SqT.of hq,atI_nat (j:=1) rfl,_,rfl,p,_,_,_,rfl,rfl,SqT.of hp,atI_nat (j:=1) rfl,_,_,rfl,rfl,?_⟩
  refine ⟨_,rfl,r,_,_,_,rfl,rfl,hr',atI_nat (j:=0) rfl,_,rfl,p,_,_,_,rfl,rfl,SqT.of hp,atI_nat (j:=0) rfl,_,_,rfl,rfl,?_⟩
  exact ⟨_,_,rfl,rfl,m2,_,_,rfl,rfl,k⟩
def spSide (K:PySem.W.Frag):Sp:=fun vs H Q _=>∃ a xs ps,vs = [.ref a]∧SqL K H a xs∧ArePts H xs ps∧ps.length≤144∧(∀ p ∈ ps,Bd2 p) ∧
 ∀ r zs H',H r = none→Same H H'→H' r = some (.lst zs)→ArePts H' zs (sideOf ps)→Q (.ref r) H'
theorem scSide:FnScope ["points","side","point"] ["points"] (defScope sSide):=⟨rfl,rfl,rfl,by decide +kernel,rfl,by decide +kernel,by decide +kernel⟩
theorem sideRev_len:∀ (ps st:List Pt),(sideRev st ps).length≤st.length+ps.length
 | [],st=>by simp [sideRev]
 | p :: r,st=>by
  unfold sideRev
  have h1:=sideRev_len r (p :: popB p st)
  have h2:=(popB_suffix p st).length_le
  simp at h1 ⊢; omega
theorem sideRev_sub:∀ (ps st:List Pt),∀ x ∈ sideRev st ps,x ∈ st∨x ∈ ps
 | [],st,x,h=>by simp [sideRev] at h; exact .inl h
 | p :: r,st,x,h=>by
  unfold sideRev at h
  rcases sideRev_sub r _ x h with z | z
  ·rcases List.mem_cons.mp z with z | z
   ·exact .inr (by rw [z]; simp)
   ·exact .inl ((popB_suffix p st).subset z)
  ·exact .inr (List.mem_cons_of_mem _ z)
theorem sideRev_snoc:∀ (ps st:List Pt) (p:Pt),sideRev st (ps++[p]) = p :: popB p (sideRev st ps)
 | [],st,p=>rfl
 | q :: r,st,p=>by
  show sideRev (q :: popB q st) (r++[p]) = _
  rw [sideRev_snoc r]
  rfl
theorem ok_side {f g:Addr} {fd gd:FuncData} (F:Fun K "side_of" "side_of" sSide f fd) (T:Txt mg) (G:FnOk P w K mg base CX0 1 g gd ["tail","head","point"] (spTurn K)) (bG:Binds K gd ["tail","head","point"] []) (kG:PySem.W.keepIn K (.ref g) = true) (mG:mg "turn" = some (.ref g)) :
  FnOk P w K mg base CX0 2 f fd ["points"] (spSide K):=by
 refine F.ok scSide (fun vs H Q E h=>?_) (fun cdv A outer s H vs Q E hr h=>?_)
 ·obtain ⟨a,xs,ps,rfl,_⟩:=h; rfl
 ·obtain ⟨a,xs,ps,rfl,hq,hp,hl,hb,k⟩:=h
  have ln:=hp.length
  refine ⟨_,pss_cons (ps_set (i:=1) scSide.nd rfl (Or.inl rfl) (pe_lst pa_nil))
   (pss_cons (ps_for PassesOwn.never rfl (pi_list (pv 0)) (pg_name (i:=2) scSide.nd rfl (Or.inl rfl))
    (pss_cons (ps_while PassesOwn.never (PW.pt (pw_and (pt_cmpR op_gt (pe_callB call_len_seq rfl T.len PySem.boot_len (pa_cons (pv 1) pa_nil)) pe_int (nomark _))
      (pw_and1 (pt_cmpR op_le (pe_call G hr rfl mG kG bG .nil pass0 (pa_cons (pe_ix ix_list (pv 1) (pe_un un_neg pe_int) (fun _ _=>rfl)) (pa_cons (pe_ix ix_list (pv 1) (pe_un un_neg pe_int) (fun _ _=>rfl)) (pa_cons (pv 2) pa_nil)))) pe_int (nomark _)))))
     (pss_one (ps_expr (pe_bm0 PySem.F.plainAttrs_list PySem.F.slot_list_pop PySem.F.type_list_pop mt_pop (pv 1)))))
    (pss_one (ps_expr (pe_bm PySem.F.plainAttrs_list PySem.F.slot_list_append PySem.F.type_list_append mt_append (pv 1) (pa_cons (pv 2) pa_nil))))))
   (pss_one (ps_ret (pv 1)))),?_⟩
  refine ⟨(by show 0≤sizeLine; decide),fun r hr0=>?_⟩
  refine ⟨_,rfl,a,rfl,⟨_,(same_upd (Same.refl H) hr0).seq hq⟩,for_list (K:=K) (a:=a) (xs:=xs)
   (fun i σ H2=>∃ v zs,σ = [some (.ref a),some (.ref r),v]∧Same H H2∧H2 r = some (.lst zs)∧ArePts H2 zs (sideRev [] (ps.take i)).reverse)
   ⟨none,[],rfl,same_upd (Same.refl H) hr0,upd_same,.nil⟩ (fun i σ H2 _ ⟨_,_,_,s2,_⟩=>s2.seq hq) ?_ ?_⟩
  ·rintro i y σ H2 hi ⟨v,zs,rfl,s2,h2,hz⟩
   obtain ⟨p,p1,p2⟩:=Pair.get hp hi
   have hil:i < xs.length:=(List.getElem?_eq_some_iff.mp hi).1
   have bs:∀ q ∈ sideRev [] (ps.take i),Bd2 q:=fun q hq=>by
    rcases sideRev_sub _ _ q hq with z | z
    ·simp at z
    ·exact hb q (List.mem_of_mem_take z)
   have bp:Bd2 p:=hb p (List.mem_of_getElem? p1)
   have lz:(sideRev [] (ps.take i)).length≤144:=by
    have:=sideRev_len (ps.take i) []
    rw [List.length_take] at this; simp at this; omega
   refine ⟨fun m σ' H3=>∃ st zs',σ' = [some (.ref a),some (.ref r),some y]∧m = st.length∧Same H H3∧H3 r = some (.lst zs')∧ArePts H3 zs' st.reverse∧popB p st = popB p (sideRev [] (ps.take i))∧st <:+ sideRev [] (ps.take i),
    ⟨_,sideRev [] (ps.take i),zs,rfl,rfl,s2,h2,hz,rfl,List.suffix_refl _⟩,?_⟩
   rintro m σ' H3 ⟨st,zs',rfl,rfl,s3,h3,hz',hpop,hsuf⟩
   have lz':=hz'.length
   rw [List.length_reverse] at lz'
   have bst:∀ q ∈ st,Bd2 q:=fun q hq=>bs q (hsuf.subset hq)
   have lst:=hsuf.length_le
   have leave:popB p st = st→tBM K "list" rAppend (tVar 1) (tCons (tVar 2) tNil) [some (.ref a),some (.ref r),some y] H3 (fun _ H4=>∃ v zs,([some (.ref a),some (.ref r),some y]:St) = [some (.ref a),some (.ref r),v]∧Same H H4∧H4 r = some (.lst zs)∧ArePts H4 zs (sideRev [] (ps.take (i+1))).reverse):=fun hst=>by
    refine ⟨_,rfl,.inl ⟨rfl,_,SqL.of h3⟩,_,rfl,r,_,_,rfl,rfl,h3,small1000 (by omega),?_⟩
    refine ⟨_,_,rfl,same_upd s3 hr0,upd_same,?_⟩
    have e1:ps.take (i+1) = ps.take i++[p]:=by rw [List.take_add_one,p1]; rfl
    rw [e1,sideRev_snoc,← hpop,hst,List.reverse_cons]
    exact Pair.append (ArePts.keep hz' (Keep.lst h3 _)) (.cons (IsPt.keep p2 ((Same.keep s3).trans (Keep.lst h3 _))) .nil)
   refine ⟨_,rfl,r,_,rfl,.inl (SqL.of h3),_,_,rfl,rfl,_,rfl,?_⟩
   match st,hpop,hsuf,lz',bst,hz',lst,leave with
   | [],_,_,lz',_,_,_,leave =>
    rw [decide_eq_false (show ¬ (1:Int) < (zs'.length:Int) by rw [lz']; simp)]
    refine iteF (iteF (leave rfl))
   | [b],_,_,lz',_,_,_,leave =>
    rw [decide_eq_false (show ¬ (1:Int) < (zs'.length:Int) by rw [lz']; simp)]
    refine iteF (iteF (leave rfl))
   | b :: c :: rr,hpop,hsuf,lz',bst,hz',lst,leave =>
    simp only [List.length_cons] at lz' lst
    rw [decide_eq_true (show (1:Int) < (zs'.length:Int) by omega)]
    refine iteT ?_
    have lrev:(b :: c :: rr).reverse.length = rr.length+2:=by simp
    have g1:(b :: c :: rr).reverse[zs'.length - 1]? = some b:=by
     rw [List.getElem?_reverse (by simp; omega)]
     simp only [List.length_cons]
     rw [show rr.length+1+1 - 1 - (zs'.length - 1) = 0 by omega]; rfl
    have g2:(b :: c :: rr).reverse[zs'.length - 2]? = some c:=by
     rw [List.getElem?_reverse (by simp; omega)]
     simp only [List.length_cons]
     rw [show rr.length+1+1 - 1 - (zs'.length - 2) = 1 by omega]; rfl
    obtain ⟨vb,b1,b2⟩:=Pair.get' hz' g1
    obtain ⟨vc,c1,c2⟩:=Pair.get' hz' g2
    refine ⟨_,rfl,_,rfl,r,_,_,_,rfl,rfl,SqL.of h3,atI_m2 c1 (by omega),_,rfl,_,rfl,r,_,_,_,rfl,rfl,SqL.of h3,atI_m1 b1,_,rfl,vc,vb,y,c,b,p,rfl,c2,b2,(IsPt.keep p2 (Same.keep s3)).k,(bst c (by simp)).w,(bst b (by simp)).w,bp.w,_,_,rfl,rfl,_,rfl,?_⟩
    by_cases ht:turn c b p≤0
    ·rw [decide_eq_true ht]
     refine iteT ⟨fun σ4 H4=>∃ zs4,σ4 = [some (.ref a),some (.ref r),some y]∧Same H H4∧H4 r = some (.lst zs4)∧ArePts H4 zs4 (c :: rr).reverse,fun σ4 H4 ⟨zs4,e4,s4,h4,z4⟩=>?_,?_⟩
     ·refine ⟨(c :: rr).length,by simp,c :: rr,zs4,e4,rfl,s4,h4,z4,?_,(List.suffix_cons _ _).trans hsuf⟩
      rw [← hpop]
      show popB p (c :: rr) = popB p (b :: c :: rr)
      conv=>rhs; unfold popB
      rw [if_pos ht]
     ·refine ⟨_,rfl,.inl ⟨rfl,_,SqL.of h3⟩,r,_,_,rfl,rfl,h3,b1,?_⟩
      refine ⟨_,rfl,same_upd s3 hr0,upd_same,?_⟩
      have:=Pair.dropLast (ArePts.keep hz' (Keep.lst h3 (.lst zs'.dropLast)))
      rw [List.reverse_cons,List.dropLast_concat] at this
      exact this
    ·rw [decide_eq_false ht]
     refine iteF (leave ?_)
     unfold popB
     rw [if_neg ht]
  ·rintro σ H2 ⟨v,zs,rfl,s2,h2,hz⟩
   refine ⟨_,rfl,?_⟩
   rw [List.take_of_length_le (by omega)] at hz
   exact k r zs H2 hr0 s2 h2 hz
theorem cut_last (xs:List V):cutV xs none (some (-1)) = xs.dropLast:=by
 unfold cutV
 rw [show HT.sIx xs.length 0 none = 0 from rfl,List.drop_zero,Nat.sub_zero,List.dropLast_eq_take]
 congr 1
 show (if (-1:Int) < 0 then ((-1:Int)+(xs.length:Int)).toNat else min (-1:Int).toNat xs.length) = xs.length - 1
 rw [if_pos (by decide)]; omega
theorem sideOf_len (ps:List Pt):(sideOf ps).length≤ps.length:=by
 unfold sideOf
 rw [List.length_reverse]
 have:=sideRev_len ps []
 simpa using this
def spRnd (K:PySem.W.Frag):Sp:=fun vs H Q _=>∃ a xs ps,vs = [.ref a]∧SqL K H a xs∧ArePts H xs ps∧ps.length≤144∧(∀ p ∈ ps,Bd2 p) ∧
 ∀ r zs H',H r = none→Same H H'→H' r = some (.lst zs)→ArePts H' zs (cornersM ps)→Q (.ref r) H'
theorem scRnd:FnScope ["points","rising"] ["points"] (defScope sRnd):=⟨rfl,rfl,rfl,by decide +kernel,rfl,by decide +kernel,by decide +kernel⟩
theorem ok_rnd {f g:Addr} {fd gd:FuncData} (F:Fun K "corners_round" "corners_round" sRnd f fd) (T:Txt mg) (G:FnOk P w K mg base CX0 2 g gd ["points"] (spSide K)) (bG:Binds K gd ["points"] []) (kG:PySem.W.keepIn K (.ref g) = true) (mG:mg "side_of" = some (.ref g)) :
  FnOk P w K mg base CX0 3 f fd ["points"] (spRnd K):=by
 refine F.ok scRnd (fun vs H Q E h=>?_) (fun cdv A outer s H vs Q E hr h=>?_)
 ·obtain ⟨a,xs,ps,rfl,_⟩:=h; rfl
 ·obtain ⟨a,xs,ps,rfl,hq,hp,hl,hb,k⟩:=h
  have hu:(A.deeper (PyProof.Rows.envOfC "corners_round" (defScope sRnd) s.heap.objs.size f cdv)).units+16 < cLine:=by have:=hr.units; omega
  refine ⟨_,pss_cons (ps_set (i:=1) scRnd.nd rfl (Or.inl rfl) (pe_sortset hu hr.hd rfl T.sorted rfl T.set (pv 0)))
   (pss_cons (ps_if (pt_cmpR op_lt (pe_callB call_len_seq rfl T.len PySem.boot_len (pa_cons (pv 1) pa_nil)) pe_int (nomark _)) (pss_one (ps_ret (pv 1))) pss_nil)
   (pss_one (ps_ret (pe_op op_cat
    (pe_slice sl_list (pe_call G hr rfl mG kG bG .nil pass0 (pa_cons (pv 1) pa_nil)) po_none (po_some (pe_un un_neg pe_int)))
    (pe_slice sl_list (pe_call G hr rfl mG kG bG .nil pass0 (pa_cons (pe_listrev hr.hd rfl T.list rfl T.reversed (pv 1)) pa_nil)) po_none (po_some (pe_un un_neg pe_int))))))),?_⟩
  refine ⟨_,rfl,a,xs,ps,rfl,hq,hp,by omega,fun l zs hl0 hz _=>?_⟩
  have hz1:ArePts (upd H l (.lst zs)) zs (uniqP ps):=ArePts.keep hz (Keep.new hl0 _)
  have s1:Same H (upd H l (.lst zs)):=same_upd (Same.refl H) hl0
  have lz:=hz.length
  have lu:=uniqP_le ps
  have bu:∀ p ∈ uniqP ps,Bd2 p:=fun p hp=>hb p (mem_uniqP.mp hp)
  refine ⟨_,rfl,l,_,rfl,.inl (SqL.of upd_same),_,_,rfl,rfl,_,rfl,?_⟩
  refine ite2 (fun c=>?_) (fun c=>?_)
  ·have c':(zs.length:Int) < 2:=of_decide_eq_true c
   refine ⟨_,rfl,k l zs _ hl0 s1 upd_same ?_⟩
   have:cornersM ps = uniqP ps:=by unfold cornersM hullR; rw [if_pos (by omega)]
   rw [this]; exact hz1
  ·have c':¬ (zs.length:Int) < 2:=of_decide_eq_false (Bool.eq_false_iff.mpr c)
   refine ⟨_,rfl,l,zs,uniqP ps,rfl,SqL.of upd_same,hz1,by omega,bu,fun r1 z1 H2 n2 s2 h2 p2=>?_⟩
   refine ⟨_,rfl,_,rfl,r1,_,rfl,SqL.of h2,fun r2 n3=>?_⟩
   have s3:Same H2 (upd H2 r2 (.lst (cutV z1 none (some (-1))))):=same_upd (Same.refl _) n3
   have s12:=s2.trans s3
   refine ⟨_,rfl,l,zs,rfl,SqL.of (s12 _ _ upd_same),fun l2 n4=>?_⟩
   have s4:=same_upd (o:=.lst zs.reverse) (Same.refl (upd H2 r2 (.lst (cutV z1 none (some (-1)))))) n4
   have hz4:ArePts (upd (upd H2 r2 (.lst (cutV z1 none (some (-1))))) l2 (.lst zs.reverse)) zs.reverse (uniqP ps).reverse:=ArePts.keep (Pair.reverse hz1) (Same.keep (s12.trans s4))
   refine ⟨l2,zs.reverse,(uniqP ps).reverse,rfl,SqL.of upd_same,hz4,by rw [List.length_reverse]; omega,fun p hp=>bu p (List.mem_reverse.mp hp),fun r3 z3 H5 n5 s5 h5 p5=>?_⟩
   refine ⟨_,rfl,_,rfl,r3,_,rfl,SqL.of h5,fun r4 n6=>?_⟩
   have s6:=same_upd (o:=.lst (cutV z3 none (some (-1)))) (Same.refl H5) n6
   have hr2:(upd H5 r4 (.lst (cutV z3 none (some (-1))))) r2 = some (.lst (cutV z1 none (some (-1)))):=(s4.trans (s5.trans s6)) _ _ upd_same
   have ll1:=p2.length
   have ll3:=p5.length
   have lo1:=sideOf_len (uniqP ps)
   have lo3:=sideOf_len (uniqP ps).reverse
   rw [List.length_reverse] at lo3
   refine ⟨r2,r4,_,_,rfl,rfl,hr2,upd_same,?_,fun r5 n7=>?_⟩
   ·rw [cut_last,cut_last,List.length_dropLast,List.length_dropLast]
    exact Nat.le_of_lt (small1000 (by omega))
   ·have s7:=same_upd (o:=.lst (cutV z1 none (some (-1))++cutV z3 none (some (-1)))) (Same.refl (upd H5 r4 (.lst (cutV z3 none (some (-1)))))) n7
    have nr5:H r5 = none:=by
     cases q:H r5 with
     | none=>rfl
     | some o =>
      have:=(s1.trans (s12.trans (s4.trans (s5.trans s6)))) r5 o q
      rw [n7] at this; cases this
    refine k r5 _ _ nr5 (s1.trans (s12.trans (s4.trans (s5.trans (s6.trans s7))))) upd_same ?_
    have e:cornersM ps = (sideOf (uniqP ps)).dropLast++(sideOf (uniqP ps).reverse).dropLast:=by unfold cornersM hullR; rw [if_neg (by omega)]
    rw [e]
    have ez:cutV z1 none (some (-1))++cutV z3 none (some (-1)) = z1.dropLast++z3.dropLast:=by rw [cut_last,cut_last]
    refine (congrArg (fun l=>ArePts _ l _) ez).mpr ?_
    exact Pair.append (Pair.dropLast (ArePts.keep p2 (Same.keep (s3.trans (s4.trans (s5.trans (s6.trans s7))))))) (Pair.dropLast (ArePts.keep p5 (Same.keep (s6.trans s7))))
end
end Toy
set_option maxRecDepth 100000
namespace Toy
open PySem L2 Geo
section
variable {P:Program} {w:World} {K:PySem.W.Frag} {mg:Str→Option Value} {base:Heap}
def spCell (K:PySem.W.Frag):Sp:=fun vs H Q _=>∃ (a:Addr) (ns:List Int) (k:Int),vs = [.ref a,.int k]∧SqL K H a (ns.map V.int)∧0≤k∧∀ z:Int,z = ns.getD k.toNat 0→Q (.int z) H
theorem scCell:FnScope ["script","k"] ["script","k"] (defScope sCell):=⟨rfl,rfl,rfl,by decide +kernel,rfl,by decide +kernel,by decide +kernel⟩
theorem ok_cell {f:Addr} {fd:FuncData} (F:Fun K "_law_cell_at" "_law_cell_at" sCell f fd) (T:Txt mg):FnOk P w K mg base CX0 1 f fd ["script","k"] (spCell K):=by
 refine F.ok scCell (fun vs H Q E h=>?_) (fun cdv A outer s H vs Q E hr h=>?_)
 ·obtain ⟨a,ns,k,rfl,_⟩:=h; rfl
 ·obtain ⟨a,ns,k,rfl,hq,h0,q⟩:=h
  refine ⟨_,pss_cons (ps_if (pt_cmpR op_lt (pv 1) (pe_callB call_len_seq rfl T.len PySem.boot_len (pa_cons (pv 0) pa_nil)) (nomark _)) (pss_one (ps_ret (pe_ix ix_list (pv 0) (pv 1) (fun _ _=>rfl)))) pss_nil) (pss_one (ps_ret pe_int)),?_⟩
  refine ⟨_,rfl,_,rfl,a,_,rfl,.inl hq,_,_,rfl,rfl,_,rfl,?_⟩
  refine ite2 (fun c=>?_) (fun c=>?_)
  ·have c':k < ((ns.map V.int).length:Int):=of_decide_eq_true c
   rw [List.length_map] at c'
   have hk:k.toNat < ns.length:=by omega
   have e:atI (ns.map V.int) k = some (.int ns[k.toNat]):=by
    have:=atI_nat (xs:=ns.map V.int) (j:=k.toNat) (v:=.int ns[k.toNat]) (by simp [hk])
    rw [show ((k.toNat:Nat):Int) = k by omega] at this
    exact this
   exact ⟨_,rfl,_,rfl,a,_,_,_,rfl,rfl,hq,e,q _ (by rw [List.getD_eq_getElem?_getD,List.getElem?_eq_getElem hk]; rfl)⟩
  ·have c':¬ k < ((ns.map V.int).length:Int):=of_decide_eq_false (Bool.eq_false_iff.mpr c)
   rw [List.length_map] at c'
   exact q 0 (by rw [List.getD_eq_getElem?_getD,List.getElem?_eq_none (by omega)]; rfl)
def spNext:Sp:=fun vs H Q _=>∃ x:Int,vs = [.int x]∧∀ r:Int,0≤r→r < 2147483629→Q (.int r) H
theorem scNext:FnScope ["seed"] ["seed"] (defScope sNext):=⟨rfl,rfl,rfl,by decide +kernel,rfl,by decide +kernel,by decide +kernel⟩
theorem ok_next {f:Addr} {fd:FuncData} (F:Fun K "_law_next" "_law_next" sNext f fd):FnOk P w K mg base CX0 1 f fd ["seed"] spNext:=by
 refine F.ok scNext (fun vs H Q E h=>?_) (fun cdv A outer s H vs Q E hr h=>?_)
 ·obtain ⟨x,rfl,_⟩:=h; rfl
 ·obtain ⟨x,rfl,q⟩:=h
  refine ⟨_,pss_cons (ps_set (i:=0) scNext.nd rfl (Or.inl rfl) (pe_op op_mod (pe_op op_add (pv 0) pe_int) pe_int))
   (pss_one (ps_ret (pe_op op_mod (pe_op op_add (pe_op op_add (pe_op op_mul (pv 0) (pv 0)) (pe_op op_mul pe_int (pv 0))) pe_int) pe_int))),?_⟩
  refine ⟨_,rfl,_,_,rfl,rfl,_,_,rfl,rfl,(by show (0:Int) < 2147483647; decide),?_⟩
  have h1:=Int.emod_nonneg (x+7919) (show (2147483647:Int) ≠ 0 by decide)
  have h2:=Int.emod_lt_of_pos (x+7919) (show (0:Int) < 2147483647 by decide)
  refine ⟨_,rfl,_,rfl,_,_,rfl,rfl,.inl ⟨Int.lt_of_lt_of_le (by decide) h1,Int.lt_trans h2 (by decide)⟩,_,rfl,_,_,rfl,rfl,.inl ⟨by decide,by decide⟩,_,_,rfl,rfl,_,_,rfl,rfl,_,_,rfl,rfl,(by show (0:Int) < 2147483629; decide),?_⟩
  exact q _ (Int.emod_nonneg _ (by decide)) (Int.emod_lt_of_pos _ (by decide))
end
end Toy
set_option maxRecDepth 100000
namespace Toy
open PySem L2 Geo
section
variable {P:Program} {w:World} {K:PySem.W.Frag} {mg:Str→Option Value} {base:Heap}
def spWhole:Sp:=fun vs H Q _=>∃ x:Int,vs = [.int x]∧Q (.bl true) H
theorem scWhole:FnScope ["found"] ["found"] (defScope sWhole):=⟨rfl,rfl,rfl,by decide +kernel,rfl,by decide +kernel,by decide +kernel⟩
theorem ok_whole {f:Addr} {fd:FuncData} (F:Fun K "_law_whole" "_law_whole" sWhole f fd) (T:Txt mg):FnOk P w K mg base CX0 1 f fd ["found"] spWhole:=by
 refine F.ok scWhole (fun vs H Q E h=>?_) (fun cdv A outer s H vs Q E hr h=>?_)
 ·obtain ⟨x,rfl,_⟩:=h; rfl
 ·obtain ⟨x,rfl,q⟩:=h
  refine ⟨_,pss_one (ps_ret (pe_and (pe_callB call_isi rfl T.isinstance PyProof.Rows.boot_isinstance (pa_cons (pv 0) (pa_cons (pe_bltn (v:=.ty "int") rfl T.int PyProof.Rows.boot_int rfl) pa_nil)))
   (pe_one (pe_not (pe_callB call_isi rfl T.isinstance PyProof.Rows.boot_isinstance (pa_cons (pv 0) (pa_cons (pe_bltn (v:=.ty "bool") rfl T.bool PyProof.Rows.boot_bool rfl) pa_nil))))))),?_⟩
  refine ⟨_,rfl,_,"int","int",true,rfl,rfl,kit_int_int,_,rfl,?_⟩
  refine iteT ?_
  exact ⟨_,rfl,_,"int","bool",false,rfl,rfl,kit_int_bool,_,rfl,q⟩
end
end Toy
set_option maxRecDepth 100000
namespace Toy
open PySem L2 Geo
section
variable {P:Program} {w:World} {K:PySem.W.Frag} {mg:Str→Option Value} {base:Heap}
def spPts (K:PySem.W.Frag):Sp:=fun vs H Q _=>∃ (a:Addr) (ns:List Int) (i m:Int),vs = [.ref a,.int i,.int m]∧SqL K H a (ns.map V.int)∧0≤i∧0≤m∧m≤12 ∧
 ∀ r zs ps H',H r = none→Same H H'→H' r = some (.lst zs)→ArePts H' zs ps→ps.length = (ns.getD i.toNat 0 % (m+1)).toNat→(ps.length:Int)≤m→(∀ p ∈ ps,Bd p)→Q (.ref r) H'
theorem scPts:FnScope ["script","at","most","many","span","points","k","seed","wide","across"] ["script","at","most"] (defScope sPts):=⟨rfl,rfl,rfl,by decide +kernel,rfl,by decide +kernel,by decide +kernel⟩
abbrev cPts:Scope:=lcScope (defScope sPts) (asgVal (nth (ifBody (nth (defBody sPts) 4)) 1))
theorem cs_pts {cdv:Value} {A:Around} {outer:List Env} {s:Shared} {H:Hp} {E:XK} {f:Addr} :
  CompScope (cxOf CX0 P w K mg base ["script","at","most","many","span","points","k","seed","wide","across"] "_law_points" (defScope sPts) f cdv A outer s H E).nox cPts ["point","across"] [none,some 9] where
 kind:=rfl
 nocell:=by decide +kernel
 names:=by decide +kernel
 frees:=by show ∀ z ∈ cPts.names,z.2 = .free→(defScope sPts).names.lookup z.1 = some .cell; decide +kernel
 nd:=by decide +kernel
 len:=rfl
 cap:=fun i j h=>match i,h with
  | 0,h=>by simp at h
  | 1,h=>by
   simp at h; subst h
   exact ⟨"across",rfl,rfl,by decide +kernel,rfl,.inl rfl⟩
  | n+2,h=>by simp at h
theorem span_at (z:Int):∃ sp:Int,atI ([.int 2,.int 4,.int 1000,.int 1]:List V) (z % 4) = some (.int sp)∧1≤sp∧sp≤1000:=by
 have h:z % 4 = 0∨z % 4 = 1∨z % 4 = 2∨z % 4 = 3:=by omega
 rcases h with h | h | h | h
 ·rw [h]; exact ⟨2,atI_nat (j:=0) rfl,by decide,by decide⟩
 ·rw [h]; exact ⟨4,atI_nat (j:=1) rfl,by decide,by decide⟩
 ·rw [h]; exact ⟨1000,atI_nat (j:=2) rfl,by decide,by decide⟩
 ·rw [h]; exact ⟨1,atI_nat (j:=3) rfl,by decide,by decide⟩
theorem pt_bd {a b sp:Int} (h1:1≤sp) (h2:sp≤1000):Bd (a % (2 * sp+1) - sp,b % (2 * sp+1) - sp):=by
 have a1:=Int.emod_nonneg a (show (2 * sp+1) ≠ 0 by omega)
 have a2:=Int.emod_lt_of_pos a (show 0 < 2 * sp+1 by omega)
 have b1:=Int.emod_nonneg b (show (2 * sp+1) ≠ 0 by omega)
 have b2:=Int.emod_lt_of_pos b (show 0 < 2 * sp+1 by omega)
 generalize a % (2 * sp+1) = x at *
 generalize b % (2 * sp+1) = y at *
 refine ⟨?_,?_,?_,?_⟩ <;> dsimp only <;> omega
theorem ac_bd {p:Pt} {z:Int} (h:Bd p):Bd (p.1,(z % 3 - 1) * p.1):=by
 have e:z % 3 - 1 = -1∨z % 3 - 1 = 0∨z % 3 - 1 = 1:=by omega
 obtain ⟨h1,h2,_,_⟩:=h
 rcases e with e | e | e <;> rw [e] <;> refine ⟨h1,h2,?_,?_⟩ <;> dsimp only <;> omega
theorem cs_nd:((["point","across"]:List Str)).Nodup:=by decide +kernel
theorem ok_pts {f g h:Addr} {fd gd hd:FuncData} (F:Fun K "_law_points" "_law_points" sPts f fd) (T:Txt mg) (G:FnOk P w K mg base CX0 1 g gd ["script","k"] (spCell K)) (bG:Binds K gd ["script","k"] []) (kG:PySem.W.keepIn K (.ref g) = true) (mG:mg "_law_cell_at" = some (.ref g))
  (R:FnOk P w K mg base CX0 1 h hd ["seed"] spNext) (bR:Binds K hd ["seed"] []) (kR:PySem.W.keepIn K (.ref h) = true) (mR:mg "_law_next" = some (.ref h)) :
  FnOk P w K mg base CX0 2 f fd ["script","at","most"] (spPts K):=by
 refine F.ok scPts (fun vs H Q E h=>?_) (fun cdv A outer s H vs Q E hr h=>?_)
 ·obtain ⟨a,ns,i,m,rfl,_⟩:=h; rfl
 ·obtain ⟨a,ns,i,m,rfl,hq,i0,m0,m1,k⟩:=h
  refine ⟨_,pss_cons (ps_set (i:=3) scPts.nd rfl (Or.inl rfl) (pe_op op_mod (pe_call G hr rfl mG kG bG .nil pass0 (pa_cons (pv 0) (pa_cons (pv 1) pa_nil))) (pe_op op_add (pv 2) pe_int)))
   (pss_cons (ps_set (i:=4) scPts.nd rfl (Or.inl rfl) (pe_ix ix_list (pe_lst (pa_cons pe_int (pa_cons pe_int (pa_cons pe_int (pa_cons pe_int pa_nil))))) (pe_op op_mod (pe_call G hr rfl mG kG bG .nil pass0 (pa_cons (pv 0) (pa_cons (pe_op op_add (pv 1) pe_int) pa_nil))) pe_int) (fun _ _=>rfl)))
   (pss_cons (ps_set (i:=5) scPts.nd rfl (Or.inl rfl) (pe_lst pa_nil))
   (pss_cons (ps_for PassesOwn.never rfl (pi_range1 rfl T.range (pa_cons (pv 3) pa_nil)) (pg_name (i:=6) scPts.nd rfl (Or.inl rfl))
    (pss_cons (ps_set (i:=7) scPts.nd rfl (Or.inl rfl) (pe_call R hr rfl mR kR bR .nil pass0 (pa_cons (pe_op op_add (pe_call G hr rfl mG kG bG .nil pass0 (pa_cons (pv 0) (pa_cons (pe_op op_add (pe_op op_add (pv 1) pe_int) (pe_op op_mod (pv 6) pe_int)) pa_nil))) (pe_op op_mul pe_int (pv 6))) pa_nil)))
    (pss_cons (ps_set (i:=8) scPts.nd rfl (Or.inl rfl) (pe_op op_add (pe_op op_mul pe_int (pv 4)) pe_int))
    (pss_one (ps_expr (pe_bm PySem.F.plainAttrs_list PySem.F.slot_list_append PySem.F.type_list_append mt_append (pv 5) (pa_cons (pe_tup (pa_cons (pe_op op_sub (pe_op op_mod (pe_op op_fdiv (pv 7) pe_int) (pv 8)) (pv 4)) (pa_cons (pe_op op_sub (pe_op op_mod (pe_op op_fdiv (pe_op op_fdiv (pv 7) pe_int) (pv 8)) (pv 8)) (pv 4)) pa_nil))) pa_nil)))))))
   (pss_cons (ps_if (pt_cmpR op_eq (pe_op op_mod (pe_op op_fdiv (pe_call G hr rfl mG kG bG .nil pass0 (pa_cons (pv 0) (pa_cons (pe_op op_add (pv 1) pe_int) pa_nil))) pe_int) pe_int) pe_int (nomark _))
    (pss_cons (ps_set (i:=9) scPts.nd rfl (Or.inr rfl) (pe_op op_sub (pe_op op_mod (pe_call G hr rfl mG kG bG .nil pass0 (pa_cons (pv 0) (pa_cons (pe_op op_add (pv 1) pe_int) pa_nil))) pe_int) pe_int))
    (pss_one (ps_setC (i:=5) scPts.nd rfl rfl cs_pts rfl (pi_list (pv 5)) (fun _ _ _ _ _=>pg_name (i:=0) cs_nd rfl (Or.inl rfl)) (fun _ _ _ _ _=>pif_nil)
     (fun _ _ _ _ _=>pe_tup (pa_cons (pe_ix (ixt (K':=K) rfl) (pv 0) pe_int (fun _ _=>rfl)) (pa_cons (pe_op op_mul (pv 1) (pe_ix (ixt (K':=K) rfl) (pv 0) pe_int (fun _ _=>rfl))) pa_nil))) rfl))) pss_nil)
   (pss_one (ps_ret (pv 5))))))),?_⟩
  refine ⟨_,rfl,_,rfl,a,ns,i,rfl,hq,i0,fun z1 hz1=>?_⟩
  refine ⟨_,rfl,_,_,rfl,rfl,_,_,rfl,rfl,(by show (0:Int) < m+1; omega),?_⟩
  have n1:=Int.emod_nonneg z1 (show m+1 ≠ 0 by omega)
  have n2:=Int.emod_lt_of_pos z1 (show 0 < m+1 by omega)
  refine ⟨(by show 4≤sizeLine; decide),fun l hl=>?_⟩
  have s1:Same H (upd H l (.lst [.int 2,.int 4,.int 1000,.int 1])):=same_upd (Same.refl H) hl
  refine ⟨_,rfl,_,rfl,_,_,rfl,rfl,a,ns,i+1,rfl,s1.seq hq,by omega,fun z2 _=>?_⟩
  obtain ⟨sp,e2,b1,b2⟩:=span_at z2
  refine ⟨_,_,rfl,rfl,(by show (0:Int) < 4; decide),l,_,_,_,rfl,rfl,SqL.of upd_same,e2,?_⟩
  refine ⟨(by show 0≤sizeLine; decide),fun r hr0=>?_⟩
  have hr1:H r = none:=s1.free hr0
  have s2:Same H (upd (upd H l (.lst [.int 2,.int 4,.int 1000,.int 1])) r (.lst [])):=same_upd s1 hr1
  refine ⟨_,rfl,z1 % (m+1),rfl,by omega,by omega,?_⟩
  refine for_range (n:=(z1 % (m+1)).toNat) (fun j σ H2=>∃ vk vs vw zs ps,σ = [some (.ref a),some (.int i),some (.int m),some (.int (z1 % (m+1))),some (.int sp),some (.ref r),vk,vs,vw,none]∧Same H H2∧H2 r = some (.lst zs)∧ArePts H2 zs ps∧ps.length = j∧∀ p ∈ ps,Bd p)
   ⟨none,none,none,[],[],rfl,s2,upd_same,.nil,rfl,fun p hp=>by simp at hp⟩ ?_ ?_
  ·rintro j σ H2 hj ⟨vk,vs,vw,zs,ps,rfl,s3,h3,hp,hl',hb⟩
   have lz:=hp.length
   refine ⟨_,rfl,_,rfl,_,_,rfl,rfl,_,rfl,_,_,rfl,rfl,(by show (0:Int) < 8; decide),_,_,rfl,rfl,a,ns,_,rfl,s3.seq hq,(by omega),fun z3 _=>?_⟩
   refine ⟨_,rfl,_,_,rfl,rfl,.inl ⟨by decide,by decide⟩,_,_,rfl,rfl,_,rfl,fun sd sd0 sd1=>?_⟩
   refine ⟨_,rfl,_,_,rfl,rfl,.inl ⟨by decide,by decide⟩,_,_,rfl,rfl,?_⟩
   have wp:(0:Int) < 2 * sp+1:=by omega
   refine ⟨_,rfl,.inl ⟨rfl,_,SqL.of h3⟩,?_⟩
   refine ⟨_,rfl,_,_,rfl,rfl,⟨by decide,by decide⟩,_,rfl,_,_,rfl,rfl,wp,_,rfl,_,_,rfl,rfl,?_⟩
   refine ⟨_,rfl,_,_,rfl,rfl,⟨by decide,by decide⟩,_,rfl,_,_,rfl,rfl,⟨wp,(by omega)⟩,_,rfl,_,_,rfl,rfl,wp,_,rfl,_,_,rfl,rfl,?_⟩
   refine ⟨(by show 2≤sizeLine; decide),fun t ht=>?_⟩
   have tr:r ≠ t:=ne_of_none h3 ht
   have h4:(upd H2 t (.tup [.int (sd / 7 % (2 * sp+1) - sp),.int (sd / 7 / (2 * sp+1) % (2 * sp+1) - sp)])) r = some (.lst zs):=by rw [upd_ne tr]; exact h3
   refine ⟨r,_,_,rfl,rfl,h4,small1000 (by omega),?_⟩
   refine ⟨_,_,_,_,ps++[(sd / 7 % (2 * sp+1) - sp,sd / 7 / (2 * sp+1) % (2 * sp+1) - sp)],rfl,same_upd (same_upd s3 (s3.free ht)) hr1,upd_same,?_,by simp [hl'],fun p hp'=>?_⟩
   ·refine Pair.append (ArePts.keep hp ((Keep.new ht _).trans (Keep.lst h4 _))) (.cons ⟨t,rfl,?_⟩ .nil)
    rw [upd_ne tr.symm,upd_same]
   ·rcases List.mem_append.mp hp' with z | z
    ·exact hb p z
    ·rw [List.mem_singleton] at z; rw [z]; exact pt_bd b1 b2
  ·rintro σ H2 ⟨vk,vs,vw,zs,ps,rfl,s3,h3,hp,hl',hb⟩
   have lz:=hp.length
   refine ⟨_,rfl,_,rfl,_,_,rfl,rfl,a,ns,_,rfl,s3.seq hq,by omega,fun z4 _=>?_⟩
   refine ⟨_,_,rfl,rfl,⟨by decide,by decide⟩,_,_,rfl,rfl,(by show (0:Int) < 5; decide),rfl,_,rfl,?_⟩
   refine ite2 (fun c=>?_) (fun c=>?_)
   ·refine ⟨_,rfl,_,rfl,_,_,rfl,rfl,a,ns,_,rfl,s3.seq hq,by omega,fun z5 _=>?_⟩
    refine ⟨_,_,rfl,rfl,(by show (0:Int) < 3; decide),_,_,rfl,rfl,?_⟩
    refine ⟨_,rfl,r,rfl,⟨_,SqL.of h3⟩,fun D hD=>?_⟩
    have sD:Same H2 (upd H2 D (.lst [])):=same_upd (Same.refl H2) hD
    refine comp_list (K:=K) (a:=r) (xs:=zs) (fun j σ' H'=>∃ v ys qs,σ' = [v,some (.int (z5 % 3 - 1))]∧Same H2 H'∧H' D = some (.lst ys)∧ArePts H' ys qs∧qs.length = j∧∀ q ∈ qs,Bd q)
     ⟨none,[],[],rfl,sD,upd_same,.nil,rfl,fun p hp=>by simp at hp⟩ (fun j σ' H' _ ⟨_,_,_,_,s4,_⟩=>s4.seq (SqL.of h3)) ?_ ?_
    ·rintro j x σ' H' hj ⟨v,ys,qs,rfl,s4,h4,hq4,l4,b4⟩
     obtain ⟨p,p1,p2⟩:=Pair.get hp hj
     have hjl:=(List.getElem?_eq_some_iff.mp hj).1
     have ly:=hq4.length
     obtain ⟨t,rfl,ht⟩:=IsPt.same p2 s4
     dsimp only [gName,tYes]
     refine iteT ?_
     have bp:Bd p:=hb p (List.mem_of_getElem? p1)
     refine ⟨_,rfl,t,_,_,_,rfl,rfl,SqT.of ht,atI_nat (j:=0) rfl,?_⟩
     refine ⟨_,rfl,_,rfl,t,_,_,_,rfl,rfl,SqT.of ht,atI_nat (j:=0) rfl,_,_,rfl,rfl,mulOk _ _ (by omega) (by omega),?_⟩
     refine ⟨(by show 2≤sizeLine; decide),fun u hu=>?_⟩
     have uD:D ≠ u:=ne_of_none h4 hu
     have h5:(upd H' u (.tup [.int p.1,.int ((z5 % 3 - 1) * p.1)])) D = some (.lst ys):=by rw [upd_ne uD]; exact h4
     refine ⟨ys,h5,small1000 (by omega),_,_,qs++[(p.1,(z5 % 3 - 1) * p.1)],rfl,same_upd (same_upd s4 (s4.free hu)) hD,upd_same,?_,by simp [l4],fun q hq'=>?_⟩
     ·refine Pair.append (ArePts.keep hq4 ((Keep.new hu _).trans (Keep.lst h5 _))) (.cons ⟨u,rfl,?_⟩ .nil)
      rw [upd_ne uD.symm,upd_same]
     ·rcases List.mem_append.mp hq' with z | z
      ·exact b4 q z
      ·rw [List.mem_singleton] at z; rw [z]; exact ac_bd bp
    ·rintro σ' H' ⟨v,ys,qs,rfl,s4,h4,hq4,l4,b4⟩
     refine ⟨_,rfl,k D ys qs H' (s3.free hD) (s3.trans s4) h4 hq4 (by rw [← hz1]; omega) (by omega) b4⟩
   ·exact ⟨_,rfl,k r zs ps H2 hr1 s3 h3 hp (by rw [← hz1]; exact hl') (by omega) hb⟩
end
end Toy
set_option maxRecDepth 100000
namespace Toy
open PySem L2 Geo
section
variable {P:Program} {w:World} {K:PySem.W.Frag} {mg:Str→Option Value} {base:Heap}
def spReach (K:PySem.W.Frag):Sp:=fun vs H Q _=>∃ u v w a b c,vs = [u,v,w]∧IsPt H u a∧IsPt H v b∧IsPtK K H w c∧Bw a∧Bw b∧Bw c∧Q (.int (reachM a b c)) H
theorem scReach:FnScope ["tail","head","point"] ["tail","head","point"] (defScope sReach):=⟨rfl,rfl,rfl,by decide +kernel,rfl,by decide +kernel,by decide +kernel⟩
theorem ok_reach {f:Addr} {fd:FuncData} (F:Fun K "reach" "reach" sReach f fd):FnOk P w K mg base CX0 1 f fd ["tail","head","point"] (spReach K):=by
 refine F.ok scReach (fun vs H Q E h=>?_) (fun cdv A outer s H vs Q E hr h=>?_)
 ·obtain ⟨u,v,w,a,b,c,rfl,_⟩:=h; rfl
 ·obtain ⟨u,v,w,a,b,c,rfl,⟨p,rfl,hp⟩,⟨q,rfl,hq⟩,⟨r,rfl,hr'⟩,ba,bb,bc,k⟩:=h
  refine ⟨_,pss_one (ps_ret (pe_op op_add
   (pe_op op_mul (pe_op op_sub (pe_ix ix_tup (pv 1) pe_int (fun _ _=>rfl)) (pe_ix ix_tup (pv 0) pe_int (fun _ _=>rfl))) (pe_op op_sub (pe_ix ix_tup (pv 2) pe_int (fun _ _=>rfl)) (pe_ix ix_tup (pv 0) pe_int (fun _ _=>rfl))))
   (pe_op op_mul (pe_op op_sub (pe_ix ix_tup (pv 1) pe_int (fun _ _=>rfl)) (pe_ix ix_tup (pv 0) pe_int (fun _ _=>rfl))) (pe_op op_sub (pe_ix ix_tup (pv 2) pe_int (fun _ _=>rfl)) (pe_ix ix_tup (pv 0) pe_int (fun _ _=>rfl)))))),?_⟩
  have m1:CMul (b.1 - a.1) (c.1 - a.1):=mulW _ _ _ ba.1 ba.2.1 bb.1 bb.2.1
  have m2:CMul (b.2 - a.2) (c.2 - a.2):=mulW _ _ _ ba.2.2.1 ba.2.2.2 bb.2.2.1 bb.2.2.2
  refine ⟨_,rfl,q,_,_,_,rfl,rfl,SqT.of hq,atI_nat (j:=0) rfl,_,rfl,p,_,_,_,rfl,rfl,SqT.of hp,atI_nat (j:=0) rfl,_,_,rfl,rfl,?_⟩
  refine ⟨_,rfl,r,_,_,_,rfl,rfl,hr',atI_nat (j:=0) rfl,_,rfl,p,_,_,_,rfl,rfl,SqT.of hp,atI_nat (j:=0) rfl,_,_,rfl,rfl,?_⟩
  refine ⟨_,_,rfl,rfl,m1,?_⟩
  refine ⟨_,rfl,q,_,_,_,rfl,rfl,SqT.of hq,atI_nat (j:=1) rfl,_,rfl,p,_,_,_,rfl,rfl,SqT.of hp,atI_nat (j:=1) rfl,_,_,rfl,rfl,?_⟩
  refine ⟨_,rfl,r,_,_,_,rfl,rfl,hr',atI_nat (j:=1) rfl,_,rfl,p,_,_,_,rfl,rfl,SqT.of hp,atI_nat (j:=1) rfl,_,_,rfl,rfl,?_⟩
  exact ⟨_,_,rfl,rfl,m2,_,_,rfl,rfl,k⟩
def spWorth (K:PySem.W.Frag):Sp:=fun vs H Q _=>∃ u v l p,vs = [u,v]∧IsTri H u l∧IsPtK K H v p∧Bw p∧Q (.int (wrt l p)) H
theorem scWorth:FnScope ["line","point"] ["line","point"] (defScope sWorth):=⟨rfl,rfl,rfl,by decide +kernel,rfl,by decide +kernel,by decide +kernel⟩
theorem ok_worth {f:Addr} {fd:FuncData} (F:Fun K "worth" "worth" sWorth f fd):FnOk P w K mg base CX0 1 f fd ["line","point"] (spWorth K):=by
 refine F.ok scWorth (fun vs H Q E h=>?_) (fun cdv A outer s H vs Q E hr h=>?_)
 ·obtain ⟨u,v,l,p,rfl,_⟩:=h; rfl
 ·obtain ⟨u,v,l,p,rfl,⟨a,rfl,ha⟩,⟨b,rfl,hb⟩,bp,k⟩:=h
  refine ⟨_,pss_one (ps_ret (pe_op op_add (pe_op op_add
   (pe_op op_mul (pe_ix ix_tup (pv 0) pe_int (fun _ _=>rfl)) (pe_ix ix_tup (pv 1) pe_int (fun _ _=>rfl)))
   (pe_op op_mul (pe_ix ix_tup (pv 0) pe_int (fun _ _=>rfl)) (pe_ix ix_tup (pv 1) pe_int (fun _ _=>rfl))))
   (pe_ix ix_tup (pv 0) pe_int (fun _ _=>rfl)))),?_⟩
  refine ⟨_,rfl,a,_,_,_,rfl,rfl,SqT.of ha,atI_nat (j:=0) rfl,_,rfl,b,_,_,_,rfl,rfl,hb,atI_nat (j:=0) rfl,_,_,rfl,rfl,mulR _ _ bp.1 bp.2.1,?_⟩
  refine ⟨_,rfl,a,_,_,_,rfl,rfl,SqT.of ha,atI_nat (j:=1) rfl,_,rfl,b,_,_,_,rfl,rfl,hb,atI_nat (j:=1) rfl,_,_,rfl,rfl,mulR _ _ bp.2.2.1 bp.2.2.2,?_⟩
  exact ⟨_,_,rfl,rfl,_,rfl,a,_,_,_,rfl,rfl,SqT.of ha,atI_nat (j:=2) rfl,_,_,rfl,rfl,k⟩
def spAlong:Sp:=fun vs H Q _=>∃ u v a b,vs = [u,v]∧IsPt H u a∧IsPt H v b∧Bw a∧Bw b∧∀ t,H t = none→Q (.ref t) (upd H t (.tup [.int (along a b).1,.int (along a b).2.1,.int (along a b).2.2]))
theorem scAlong:FnScope ["tail","head"] ["tail","head"] (defScope sAlong):=⟨rfl,rfl,rfl,by decide +kernel,rfl,by decide +kernel,by decide +kernel⟩
theorem ok_along {f:Addr} {fd:FuncData} (F:Fun K "line_along" "line_along" sAlong f fd):FnOk P w K mg base CX0 1 f fd ["tail","head"] spAlong:=by
 refine F.ok scAlong (fun vs H Q E h=>?_) (fun cdv A outer s H vs Q E hr h=>?_)
 ·obtain ⟨u,v,a,b,rfl,_⟩:=h; rfl
 ·obtain ⟨u,v,a,b,rfl,⟨p,rfl,hp⟩,⟨q,rfl,hq⟩,ba,bb,k⟩:=h
  refine ⟨_,pss_one (ps_ret (pe_tup (pa_cons (pe_op op_sub (pe_ix ix_tup (pv 0) pe_int (fun _ _=>rfl)) (pe_ix ix_tup (pv 1) pe_int (fun _ _=>rfl)))
   (pa_cons (pe_op op_sub (pe_ix ix_tup (pv 1) pe_int (fun _ _=>rfl)) (pe_ix ix_tup (pv 0) pe_int (fun _ _=>rfl)))
   (pa_cons (pe_op op_sub (pe_op op_mul (pe_ix ix_tup (pv 0) pe_int (fun _ _=>rfl)) (pe_ix ix_tup (pv 1) pe_int (fun _ _=>rfl))) (pe_op op_mul (pe_ix ix_tup (pv 0) pe_int (fun _ _=>rfl)) (pe_ix ix_tup (pv 1) pe_int (fun _ _=>rfl)))) pa_nil))))),?_⟩
  refine ⟨_,rfl,p,_,_,_,rfl,rfl,SqT.of hp,atI_nat (j:=1) rfl,_,rfl,q,_,_,_,rfl,rfl,SqT.of hq,atI_nat (j:=1) rfl,_,_,rfl,rfl,?_⟩
  refine ⟨_,rfl,q,_,_,_,rfl,rfl,SqT.of hq,atI_nat (j:=0) rfl,_,rfl,p,_,_,_,rfl,rfl,SqT.of hp,atI_nat (j:=0) rfl,_,_,rfl,rfl,?_⟩
  refine ⟨_,rfl,p,_,_,_,rfl,rfl,SqT.of hp,atI_nat (j:=0) rfl,_,rfl,q,_,_,_,rfl,rfl,SqT.of hq,atI_nat (j:=1) rfl,_,_,rfl,rfl,mulL _ _ ba.1 ba.2.1,?_⟩
  refine ⟨_,rfl,p,_,_,_,rfl,rfl,SqT.of hp,atI_nat (j:=1) rfl,_,rfl,q,_,_,_,rfl,rfl,SqT.of hq,atI_nat (j:=0) rfl,_,_,rfl,rfl,mulL _ _ ba.2.2.1 ba.2.2.2,?_⟩
  exact ⟨_,_,rfl,rfl,(by show 3≤sizeLine; decide),fun t ht=>k t ht⟩
def spAcross (K:PySem.W.Frag):Sp:=fun vs H Q _=>∃ u v a b,vs = [u,v]∧IsPtK K H u a∧IsPt H v b∧Bw a∧Bw b∧∀ t,H t = none→Q (.ref t) (upd H t (.tup [.int (across a b).1,.int (across a b).2.1,.int (across a b).2.2]))
theorem scAcross:FnScope ["tail","head","a","b"] ["tail","head"] (defScope sAcross):=⟨rfl,rfl,rfl,by decide +kernel,rfl,by decide +kernel,by decide +kernel⟩
theorem ok_across {f:Addr} {fd:FuncData} (F:Fun K "line_across" "line_across" sAcross f fd):FnOk P w K mg base CX0 1 f fd ["tail","head"] (spAcross K):=by
 refine F.ok scAcross (fun vs H Q E h=>?_) (fun cdv A outer s H vs Q E hr h=>?_)
 ·obtain ⟨u,v,a,b,rfl,_⟩:=h; rfl
 ·obtain ⟨u,v,a,b,rfl,⟨p,rfl,hp⟩,⟨q,rfl,hq⟩,ba,bb,k⟩:=h
  refine ⟨_,pss_cons (ps_set (i:=2) scAcross.nd rfl (Or.inl rfl) (pe_op op_sub (pe_ix ix_tup (pv 1) pe_int (fun _ _=>rfl)) (pe_ix ix_tup (pv 0) pe_int (fun _ _=>rfl))))
   (pss_cons (ps_set (i:=3) scAcross.nd rfl (Or.inl rfl) (pe_op op_sub (pe_ix ix_tup (pv 1) pe_int (fun _ _=>rfl)) (pe_ix ix_tup (pv 0) pe_int (fun _ _=>rfl))))
   (pss_one (ps_ret (pe_tup (pa_cons (pv 2) (pa_cons (pv 3) (pa_cons (pe_op op_sub (pe_op op_mul (pe_un un_neg (pv 2)) (pe_ix ix_tup (pv 1) pe_int (fun _ _=>rfl))) (pe_op op_mul (pv 3) (pe_ix ix_tup (pv 1) pe_int (fun _ _=>rfl)))) pa_nil))))))),?_⟩
  refine ⟨_,rfl,q,_,_,_,rfl,rfl,SqT.of hq,atI_nat (j:=0) rfl,_,rfl,p,_,_,_,rfl,rfl,hp,atI_nat (j:=0) rfl,_,_,rfl,rfl,?_⟩
  refine ⟨_,rfl,q,_,_,_,rfl,rfl,SqT.of hq,atI_nat (j:=1) rfl,_,rfl,p,_,_,_,rfl,rfl,hp,atI_nat (j:=1) rfl,_,_,rfl,rfl,?_⟩
  refine ⟨_,rfl,_,rfl,_,rfl,_,rfl,_,rfl,q,_,_,_,rfl,rfl,SqT.of hq,atI_nat (j:=0) rfl,_,_,rfl,rfl,mulR _ _ bb.1 bb.2.1,?_⟩
  refine ⟨_,rfl,_,rfl,q,_,_,_,rfl,rfl,SqT.of hq,atI_nat (j:=1) rfl,_,_,rfl,rfl,mulR _ _ bb.2.2.1 bb.2.2.2,?_⟩
  exact ⟨_,_,rfl,rfl,(by show 3≤sizeLine; decide),fun t ht=>k t ht⟩
def spGcd:Sp:=fun vs H Q _=>∃ a b:Int,vs = [.int a,.int b]∧0≤a∧0≤b∧Q (.int (Int.gcd a b:Nat)) H
theorem scGcd:FnScope ["one","other","rest"] ["one","other"] (defScope sGcd):=⟨rfl,rfl,rfl,by decide +kernel,rfl,by decide +kernel,by decide +kernel⟩
theorem ok_gcd {f:Addr} {fd:FuncData} (F:Fun K "greatest_divisor" "greatest_divisor" sGcd f fd):FnOk P w K mg base CX0 1 f fd ["one","other"] spGcd:=by
 refine F.ok scGcd (fun vs H Q E h=>?_) (fun cdv A outer s H vs Q E hr h=>?_)
 ·obtain ⟨a,b,rfl,_⟩:=h; rfl
 ·obtain ⟨a,b,rfl,ha,hb,k⟩:=h
  refine ⟨_,pss_cons (ps_while PassesOwn.never (pt_cmpR op_gt (pv 1) pe_int (nomark _))
    (pss_cons (ps_set (i:=2) scGcd.nd rfl (Or.inl rfl) (pe_op op_mod (pv 0) (pv 1)))
    (pss_cons (ps_set (i:=0) scGcd.nd rfl (Or.inl rfl) (pv 1))
    (pss_one (ps_set (i:=1) scGcd.nd rfl (Or.inl rfl) (pv 2))))))
   (pss_one (ps_ret (pv 0))),?_⟩
  refine ⟨fun m σ' H3=>∃ x y v,σ' = [some (.int x),some (.int y),v]∧H3 = H∧m = y.toNat∧0≤x∧0≤y∧Int.gcd x y = Int.gcd a b,⟨_,a,b,none,rfl,rfl,rfl,ha,hb,rfl⟩,?_⟩
  rintro m σ' H3 ⟨x,y,v,rfl,rfl,rfl,hx,hy,e⟩
  refine ⟨_,rfl,_,_,rfl,rfl,_,rfl,?_⟩
  by_cases hy0:0 < y
  ·rw [decide_eq_true hy0]
   refine iteT ⟨fun σ4 H4=>∃ v,σ4 = [some (.int y),some (.int (x % y)),v]∧H4 = H3,fun σ4 H4 ⟨v,e4,e5⟩=>⟨(x % y).toNat,?_,y,x % y,v,e4,e5,rfl,hy,Int.emod_nonneg _ (by omega),?_⟩,?_⟩
   ·have:=Int.emod_lt_of_pos x hy0
    have:=Int.emod_nonneg x (show y ≠ 0 by omega)
    omega
   ·rw [gcd_step hx hy0]; exact e
   ·exact ⟨_,rfl,_,rfl,_,_,rfl,rfl,hy0,_,rfl,_,rfl,_,rfl,rfl⟩
  ·rw [decide_eq_false hy0]
   refine iteF ⟨_,rfl,?_⟩
   have y0:y = 0:=by omega
   subst y0
   have:=gcd_zero hx
   rw [← e,this] at k
   exact k
end
end Toy
set_option maxRecDepth 100000
namespace Toy
open PySem L2 Geo
section
variable {P:Program} {w:World} {K:PySem.W.Frag} {mg:Str→Option Value} {base:Heap}
abbrev n_sWeigh:List Str:=["shares","whole","weights","number","share","common"]
def spWeigh (K:PySem.W.Frag):Sp:=fun vs H Q _=>∃ a zs prs,vs = [.ref a]∧SqL K H a zs∧ArePts H zs prs∧prs.length≤16∧(∀ q ∈ prs,0≤q.2)∧0 < (prs.map (·.2)).sum∧(prs.map (·.2)).sum≤64000000 ∧
 ∀ r ws H',H r = none→Same H H'→H' r = some (.lst ws)→AreTri H' ws (weighM (prs.map (·.2)).sum (sortP prs))→Q (.ref r) H'
theorem scWeigh:FnScope n_sWeigh ["shares"] (defScope sWeigh):=⟨rfl,rfl,rfl,by decide +kernel,rfl,by decide +kernel,by decide +kernel⟩
abbrev c_weigh:Scope:={ kind:=.function,names:=[(".0",.local),("number",.local),("share",.local)],isGenerator:=false,isCoroutine:=false }
theorem cs_weigh {cdv:Value} {A:Around} {outer:List Env} {s:Shared} {H:Hp} {E:XK} {f:Addr}:CompScope (cxOf CX0 P w K mg base n_sWeigh "weighing" (defScope sWeigh) f cdv A outer s H E).nox c_weigh ["number","share"] [none,none] where
 kind:=rfl
 nocell:=by decide +kernel
 names:=by decide +kernel
 frees:=by show ∀ z ∈ c_weigh.names,z.2 = .free→(defScope sWeigh).names.lookup z.1 = some .cell; decide +kernel
 nd:=by decide +kernel
 len:=rfl
 cap:=fun i j h=>match i,h with
  | 0,h=>by simp at h
  | 1,h=>by simp at h
  | n+2,h=>by simp at h
theorem nd_weigh:(["number","share"]:List Str).Nodup:=by decide +kernel
theorem gcd_lt {a b:Int} (hb:0 < b) (h:b≤64000000):((Int.gcd a b:Nat):Int) < 1073741824:=by
 have:=Int.le_of_dvd hb (Int.gcd_dvd_right a b)
 omega
theorem weighM_snoc {W:Int} {l:List Pt} {q:Pt}:weighM W (l++[q]) = if 0 < q.2 then weighM W l++[wgt W q] else weighM W l:=by
 unfold weighM
 rw [List.filter_append,List.map_append]
 by_cases h:0 < q.2
 ·rw [if_pos h]; simp [h]
 ·rw [if_neg h]; simp [h]
theorem weighM_le {W:Int} {l:List Pt}:(weighM W l).length≤l.length:=by
 unfold weighM; rw [List.length_map]; exact List.length_filter_le _ _
theorem ok_weigh {f g:Addr} {fd gd:FuncData} (F:Fun K "weighing" "weighing" sWeigh f fd) (T:Txt mg) (G:FnOk P w K mg base CX0 1 g gd ["one","other"] spGcd) (bG:Binds K gd ["one","other"] []) (kG:PySem.W.keepIn K (.ref g) = true) (mG:mg "greatest_divisor" = some (.ref g)) :
  FnOk P w K mg base CX0 2 f fd ["shares"] (spWeigh K):=by
 refine F.ok scWeigh (fun vs H Q E h=>?_) (fun cdv A outer s H vs Q E hr h=>?_)
 ·obtain ⟨a,zs,prs,rfl,_⟩:=h; rfl
 ·obtain ⟨a,zs,prs,rfl,hq,hp,hl,nn,pos,lt,k⟩:=h
  have hu:(A.deeper (PyProof.Rows.envOfC "weighing" (defScope sWeigh) s.heap.objs.size f cdv)).units+16 < cLine:=by have:=hr.units; omega
  have lz:=hp.length
  refine ⟨_,pss_cons (ps_set (i:=1) scWeigh.nd rfl (Or.inl rfl) (pe_callB (call_sumL hr.hd) rfl T.sum PyProof.Rows.boot_sum (pa_cons (pe_comp cs_weigh rfl (pi_list (pv 0))
    (fun _ _ _ _ _=>pgt (K':=K) rfl (pg_tup (n:=2) rfl (pgs_cons (pg_name (i:=0) nd_weigh rfl (Or.inl rfl)) (pgs_cons (pg_name (i:=1) nd_weigh rfl (Or.inl rfl)) pgs_nil)))) (fun _ _ _ _ _=>pif_nil) (fun _ _ _ _ _=>pv 1)) pa_nil)))
   (pss_cons (ps_set (i:=2) scWeigh.nd rfl (Or.inl rfl) (pe_lst pa_nil))
   (pss_cons (ps_for PassesOwn.never rfl (pi_list (pe_callB (call_sortedP hu) rfl T.sorted PyProof.Rows.boot_sorted (pa_cons (pv 0) pa_nil))) (pg_tup (n:=2) rfl (pgs_cons (pg_name (i:=3) scWeigh.nd rfl (Or.inl rfl)) (pgs_cons (pg_name (i:=4) scWeigh.nd rfl (Or.inl rfl)) pgs_nil)))
    (pss_one (ps_if (pt_cmpR op_gt (pv 4) pe_int (nomark _))
     (pss_cons (ps_set (i:=5) scWeigh.nd rfl (Or.inl rfl) (pe_call G hr rfl mG kG bG .nil pass0 (pa_cons (pv 4) (pa_cons (pv 1) pa_nil))))
     (pss_one (ps_expr (pe_bm PySem.F.plainAttrs_list PySem.F.slot_list_append PySem.F.type_list_append mt_append (pv 2) (pa_cons (pe_tup (pa_cons (pv 3) (pa_cons (pe_op op_fdiv (pv 4) (pv 5)) (pa_cons (pe_op op_fdiv (pv 1) (pv 5)) pa_nil)))) pa_nil))))) pss_nil)))
   (pss_one (ps_ret (pv 2))))),?_⟩
  refine ⟨_,rfl,a,rfl,⟨_,hq⟩,fun D hD=>?_⟩
  have sD:Same H (upd H D (.lst [])):=same_upd (Same.refl H) hD
  refine comp_list (K:=K) (a:=a) (xs:=zs) (fun j σ' H'=>∃ v1 v2,σ' = [v1,v2]∧Same H H'∧H' D = some (.lst (((prs.take j).map (·.2)).map V.int)))
   ⟨none,none,rfl,sD,upd_same⟩ (fun j σ' H' _ ⟨_,_,_,s4,_⟩=>s4.seq hq) ?_ ?_
  ·rintro j x σ' H' hj ⟨v1,v2,rfl,s4,h4⟩
   obtain ⟨p,p1,p2⟩:=Pair.get hp hj
   have hjl:=(List.getElem?_eq_some_iff.mp hj).1
   obtain ⟨t,rfl,ht⟩:=IsPt.same p2 s4
   refine ⟨t,_,rfl,SqT.of ht,rfl,_,_,rfl,_,_,rfl,rfl,?_⟩
   dsimp only [tYes]
   refine iteT ⟨_,rfl,_,h4,small1000 (by simp; omega),_,_,rfl,same_upd s4 hD,?_⟩
   rw [upd_same,take_snoc p1]
   simp
  ·rintro σ' H1 ⟨v1,v2,rfl,s1,h1⟩
   rw [List.take_of_length_le (by omega)] at h1
   refine ⟨D,_,rfl,SqL.of h1,?_⟩
   generalize hW:(prs.map (·.2)).sum = W at pos lt k ⊢
   refine ⟨(by show 0≤sizeLine; decide),fun r hr0=>?_⟩
   have hrn:H r = none:=s1.free hr0
   have s2:Same H (upd H1 r (.lst [])):=same_upd s1 hrn
   refine ⟨_,rfl,a,zs,prs,rfl,s2.seq hq,hp.same s2,by omega,fun l ys nl pl _=>?_⟩
   have s3:Same (upd H1 r (.lst [])) (upd (upd H1 r (.lst [])) l (.lst ys)):=same_upd (Same.refl _) nl
   have hln:H l = none:=s2.free nl
   have lys:=pl.length
   rw [sortP_length] at lys
   have s23:=s2.trans s3
   refine ⟨l,rfl,⟨_,SqL.of upd_same⟩,for_list (K:=K) (a:=l) (xs:=ys)
    (fun i σ H2=>∃ vn vs vc ws,σ = [some (.ref a),some (.int W),some (.ref r),vn,vs,vc]∧Same H H2∧H2 l = some (.lst ys)∧H2 r = some (.lst ws)∧ArePts H2 ys (sortP prs)∧AreTri H2 ws (weighM W ((sortP prs).take i)))
    ⟨none,none,none,[],by rw [← hW]; rfl,s23,upd_same,s3 _ _ upd_same,pl.same s3,.nil⟩ (fun i σ H2 _ ⟨_,_,_,_,_,_,h5,_⟩=>SqL.of h5) ?_ ?_⟩
   ·rintro i y σ H2 hi ⟨vn,vs,vc,ws,rfl,s5,h5,h6,p5,w5⟩
    obtain ⟨p,p1,p2⟩:=Pair.get p5 hi
    have hil:=(List.getElem?_eq_some_iff.mp hi).1
    have mp:p ∈ prs:=(sortP_perm prs).mem_iff.mp (List.mem_of_getElem? p1)
    have np:=nn p mp
    have lw:=w5.length
    have lw2:=weighM_le (W:=W) (l:=(sortP prs).take i)
    rw [List.length_take] at lw2
    obtain ⟨t,rfl,ht⟩:=p2
    refine ⟨t,_,rfl,SqT.of ht,rfl,_,_,rfl,_,_,rfl,rfl,?_⟩
    refine ⟨_,rfl,_,_,rfl,rfl,_,rfl,?_⟩
    by_cases hpos:0 < p.2
    ·rw [decide_eq_true hpos]
     refine iteT ⟨_,rfl,_,rfl,p.2,W,rfl,np,by omega,?_⟩
     have g0:(0:Int) < (Int.gcd p.2 W:Nat):=by have:=gcd_pos (a:=p.2) pos; omega
     have g1:=gcd_lt (a:=p.2) pos lt
     refine ⟨_,rfl,.inl ⟨rfl,_,SqL.of h6⟩,_,rfl,_,rfl,_,rfl,_,_,rfl,rfl,⟨g0,g1⟩,_,rfl,_,rfl,_,_,rfl,rfl,⟨g0,g1⟩,(by show 3≤sizeLine; decide),fun u hu0=>?_⟩
     have s6:=same_upd (o:=.tup [.int p.1,.int (p.2 / (Int.gcd p.2 W:Nat)),.int (W / (Int.gcd p.2 W:Nat))]) (Same.refl H2) hu0
     refine ⟨r,_,_,rfl,rfl,s6 _ _ h6,small1000 (by omega),?_⟩
     have nlr:l ≠ r:=fun e=>by subst e; rw [upd_same] at nl; cases nl
     have kp:Keep H2 (upd (upd H2 u (.tup [.int p.1,.int (p.2 / (Int.gcd p.2 W:Nat)),.int (W / (Int.gcd p.2 W:Nat))])) r (.lst (ws++[.ref u]))):=(Same.keep s6).trans (Keep.lst (s6 _ _ h6) _)
     refine ⟨_,_,_,_,rfl,same_upd (s5.trans s6) hrn,?_,upd_same,ArePts.keep p5 kp,?_⟩
     ·rw [upd_ne nlr]; exact s6 _ _ h5
     ·rw [take_snoc p1,weighM_snoc,if_pos hpos]
      refine Pair.append (AreTri.keep w5 kp) (.cons ⟨u,rfl,?_⟩ .nil)
      have:u ≠ r:=fun e=>by subst e; rw [h6] at hu0; cases hu0
      rw [upd_ne this,upd_same]; rfl
    ·rw [decide_eq_false hpos]
     refine iteF ⟨_,_,_,ws,rfl,s5,h5,h6,p5,?_⟩
     rw [take_snoc p1,weighM_snoc,if_neg hpos]; exact w5
   ·rintro σ H2 ⟨vn,vs,vc,ws,rfl,s5,h5,h6,p5,w5⟩
    rw [List.take_of_length_le (by rw [sortP_length]; omega)] at w5
    exact ⟨_,rfl,k r ws H2 hrn s5 h6 w5⟩
end
end Toy
set_option maxRecDepth 100000
namespace Toy
open PySem L2 Geo
section
variable {P:Program} {w:World} {K:PySem.W.Frag} {mg:Str→Option Value} {base:Heap}
abbrev n_sShut:List Str:=["ends","point","edges","fronts","line"]
def spShut (K:PySem.W.Frag):Sp:=fun vs H Q _=>∃ a xs R v p,vs = [.ref a,v]∧SqL K H a xs∧ArePts H xs R∧R.length≤300∧(∀ q ∈ R,Bd2 q)∧IsPtK K H v p∧Bd2 p ∧
 (∀ t l H',Same H H'→IsTri H' (.ref t) l→Out R p l→Q (.ref t) H')∧(∀ H',Same H H'→NoShut R p→Q .non H')
theorem scShut:FnScope n_sShut ["ends","point"] (defScope sShut):=⟨rfl,rfl,rfl,by decide +kernel,rfl,by decide +kernel,by decide +kernel⟩
abbrev c_shutE:Scope:={ kind:=.function,names:=[(".0",.local),("tail",.local),("head",.local),("line_along",.globalImplicit)],isGenerator:=false,isCoroutine:=false }
theorem cs_shutE {cdv:Value} {A:Around} {outer:List Env} {s:Shared} {H:Hp} {E:XK} {f:Addr}:CompScope (cxOf CX0 P w K mg base n_sShut "shutting_line" (defScope sShut) f cdv A outer s H E).nox c_shutE ["tail","head"] [none,none] where
 kind:=rfl
 nocell:=by decide +kernel
 names:=by decide +kernel
 frees:=by show ∀ z ∈ c_shutE.names,z.2 = .free→(defScope sShut).names.lookup z.1 = some .cell; decide +kernel
 nd:=by decide +kernel
 len:=rfl
 cap:=fun i j h=>match i,h with
  | 0,h=>by simp at h
  | 1,h=>by simp at h
  | n+2,h=>by simp at h
theorem nd_shutE:(["tail","head"]:List Str).Nodup:=by decide +kernel
abbrev c_shutF:Scope:={ kind:=.function,names:=[(".0",.local),("end",.local),("line_across",.globalImplicit),("point",.free)],isGenerator:=false,isCoroutine:=false }
theorem cs_shutF {cdv:Value} {A:Around} {outer:List Env} {s:Shared} {H:Hp} {E:XK} {f:Addr}:CompScope (cxOf CX0 P w K mg base n_sShut "shutting_line" (defScope sShut) f cdv A outer s H E).nox c_shutF ["end","point"] [none,some 1] where
 kind:=rfl
 nocell:=by decide +kernel
 names:=by decide +kernel
 frees:=by show ∀ z ∈ c_shutF.names,z.2 = .free→(defScope sShut).names.lookup z.1 = some .cell; decide +kernel
 nd:=by decide +kernel
 len:=rfl
 cap:=fun i j h=>match i,h with
  | 0,h=>by simp at h
  | 1,h=>by
   simp at h; subst h
   exact ⟨"point",rfl,rfl,by decide +kernel,rfl,.inl rfl⟩
  | n+2,h=>by simp at h
theorem nd_shutF:(["end","point"]:List Str).Nodup:=by decide +kernel
abbrev c_shutA:Scope:={ kind:=.function,names:=[(".0",.local),("end",.local),("worth",.globalImplicit),("line",.free)],isGenerator:=false,isCoroutine:=false }
theorem cs_shutA {cdv:Value} {A:Around} {outer:List Env} {s:Shared} {H:Hp} {E:XK} {f:Addr}:CompScope (cxOf CX0 P w K mg base n_sShut "shutting_line" (defScope sShut) f cdv A outer s H E).nox c_shutA ["end","line"] [none,some 4] where
 kind:=rfl
 nocell:=by decide +kernel
 names:=by decide +kernel
 frees:=by show ∀ z ∈ c_shutA.names,z.2 = .free→(defScope sShut).names.lookup z.1 = some .cell; decide +kernel
 nd:=by decide +kernel
 len:=rfl
 cap:=fun i j h=>match i,h with
  | 0,h=>by simp at h
  | 1,h=>by
   simp at h; subst h
   exact ⟨"line",rfl,rfl,by decide +kernel,rfl,.inl rfl⟩
  | n+2,h=>by simp at h
theorem nd_shutA:(["end","line"]:List Str).Nodup:=by decide +kernel
theorem rot_pts {H:Hp} {xs:List V} {R:List Pt} (h:ArePts H xs R):ArePts H (cutV xs (some 1) none++cutV xs none (some 1)) (rot1 R):=by
 rw [cut_tail,cut_one]; exact Pair.append (Pair.drop 1 h) (Pair.take 1 h)
theorem rot1_len (R:List Pt):(rot1 R).length = R.length:=by
 unfold rot1; cases R with
 | nil=>rfl
 | cons a r=>simp
theorem edge_at {R:List Pt} {i:Nat} {x y:Pt} (hx:R[i]? = some x) (hy:(rot1 R)[i]? = some y):(edgesM R)[i]? = some (along x y):=by
 unfold edgesM
 rw [List.getElem?_map,show (R.zip (rot1 R))[i]? = some (x,y) from List.getElem?_zip_eq_some.mpr ⟨hx,hy⟩]; rfl
theorem edges_len (R:List Pt):(edgesM R).length = R.length:=by unfold edgesM; rw [List.length_map,List.length_zip,rot1_len]; omega
theorem all_map {α:Type} {f:α→Bool} {l:List α}:(l.map f).all id = true↔∀ x ∈ l,f x = true:=by
 rw [List.all_eq_true]
 constructor
 ·intro h x hx; exact h (f x) (List.mem_map.mpr ⟨x,hx,rfl⟩)
 ·intro h b hb
  obtain ⟨x,hx,rfl⟩:=List.mem_map.mp hb
  exact h x hx
theorem ok_shut {f g1 g2 g3:Addr} {fd d1 d2 d3:FuncData} (F:Fun K "shutting_line" "shutting_line" sShut f fd) (T:Txt mg)
  (AL:FnOk P w K mg base CX0 1 g1 d1 ["tail","head"] spAlong) (b1:Binds K d1 ["tail","head"] []) (k1:PySem.W.keepIn K (.ref g1) = true) (m1:mg "line_along" = some (.ref g1))
  (AC:FnOk P w K mg base CX0 1 g2 d2 ["tail","head"] (spAcross K)) (b2:Binds K d2 ["tail","head"] []) (k2:PySem.W.keepIn K (.ref g2) = true) (m2:mg "line_across" = some (.ref g2))
  (WO:FnOk P w K mg base CX0 1 g3 d3 ["line","point"] (spWorth K)) (b3:Binds K d3 ["line","point"] []) (k3:PySem.W.keepIn K (.ref g3) = true) (m3:mg "worth" = some (.ref g3)) :
  FnOk P w K mg base CX0 2 f fd ["ends","point"] (spShut K):=by
 refine F.ok scShut (fun vs H Q E h=>?_) (fun cdv A outer s H vs Q E hr h=>?_)
 ·obtain ⟨a,xs,R,v,p,rfl,_⟩:=h; rfl
 ·obtain ⟨a,xs,R,v,p,rfl,hq,hp,hl,bR,hv,bp,kL,kN⟩:=h
  have lx:=hp.length
  refine ⟨_,pss_cons (ps_if (pt_cmpR op_eq (pe_callB call_len_seq rfl T.len PySem.boot_len (pa_cons (pv 0) pa_nil)) pe_int (nomark _)) (pss_one (ps_ret (pe_tup (pa_cons pe_int (pa_cons pe_int (pa_cons (pe_op op_sub (pe_un un_neg pe_int) (pe_ix ix_tup (pv 1) pe_int (fun _ _=>rfl))) pa_nil)))))) pss_nil)
   (pss_cons (ps_setC (i:=2) scShut.nd rfl rfl cs_shutE rfl (pi_zip rfl T.zip (pa_cons (pv 0) (pa_cons (pe_op op_cat (pe_slice sl_list (pv 0) (po_some pe_int) po_none) (pe_slice sl_list (pv 0) po_none (po_some pe_int))) pa_nil)))
    (fun _ _ _ _ _=>pgt (K':=K) rfl (pg_tup (n:=2) rfl (pgs_cons (pg_name (i:=0) nd_shutE rfl (Or.inl rfl)) (pgs_cons (pg_name (i:=1) nd_shutE rfl (Or.inl rfl)) pgs_nil)))) (fun _ _ _ _ _=>pif_nil)
    (fun _ _ _ _ _=>pe_call AL hr rfl m1 k1 b1 .nil pass0 (pa_cons (pv 0) (pa_cons (pv 1) pa_nil))) rfl)
   (pss_cons (ps_setC (i:=3) scShut.nd rfl rfl cs_shutF rfl (pi_list (pv 0)) (fun _ _ _ _ _=>pg_name (i:=0) nd_shutF rfl (Or.inl rfl)) (fun _ _ _ _ _=>pif_nil)
    (fun _ _ _ _ _=>pe_call AC hr rfl m2 k2 b2 .nil pass0 (pa_cons (pv 1) (pa_cons (pv 0) pa_nil))) rfl)
   (pss_cons (ps_for PassesOwn.never rfl (pi_list (pe_op op_cat (pv 2) (pv 3))) (pg_name (i:=4) scShut.nd rfl (Or.inr rfl))
    (pss_one (ps_if (PW.pt (pw_and (pt_cmpR op_lt (pe_call WO hr rfl m3 k3 b3 .nil pass0 (pa_cons (pv 4) (pa_cons (pv 1) pa_nil))) pe_int (nomark _))
      (pw_and1 (pt_val (pe_callB (call_allL hr.hd) rfl T.all PyProof.Rows.boot_all (pa_cons (pe_comp cs_shutA rfl (pi_list (pv 0)) (fun _ _ _ _ _=>pg_name (i:=0) nd_shutA rfl (Or.inl rfl)) (fun _ _ _ _ _=>pif_nil)
       (fun _ _ _ _ _=>pe_cmpR op_ge (pe_call WO hr rfl m3 k3 b3 .nil pass0 (pa_cons (pv 1) (pa_cons (pv 0) pa_nil))) pe_int (nomark _))) pa_nil))))))
     (pss_one (ps_ret (pv 4))) pss_nil)))
   (pss_one (ps_ret pe_non))))),?_⟩
  refine ⟨_,rfl,a,_,rfl,.inl hq,rfl,_,rfl,?_⟩
  by_cases h0:R = []
  ·subst h0
   have:xs.length = 0:=by simpa using lx
   rw [show (decide (V.int (xs.length:Int) = V.int 0)) = true by rw [this]; rfl]
   obtain ⟨t,rfl,ht⟩:=hv
   refine iteT ⟨_,rfl,_,rfl,t,_,_,_,rfl,rfl,ht,atI_nat (j:=0) rfl,_,_,rfl,rfl,(by show 3≤sizeLine; decide),fun u hu=>?_⟩
   refine kL u (1,0,-1 - p.1) _ (same_upd (Same.refl H) hu) ⟨u,rfl,upd_same⟩ ⟨?_,fun q hq=>by simp at hq⟩
   unfold wrt; dsimp only; omega
  ·have lR:0 < R.length:=List.length_pos_iff.mpr h0
   rw [decide_eq_false (show ¬ V.int (xs.length:Int) = V.int 0 from fun e=>by have:=V.int.inj e; omega)]
   refine iteF ?_
   refine ⟨_,rfl,_,rfl,_,rfl,a,_,rfl,hq,fun r1 n1=>?_⟩
   have t1:=same_upd (o:=.lst (cutV xs (some 1) none)) (Same.refl H) n1
   refine ⟨_,rfl,_,rfl,a,_,rfl,t1.seq hq,fun r2 n2=>?_⟩
   have t2:=same_upd (o:=.lst (cutV xs none (some 1))) (Same.refl (upd H r1 (.lst (cutV xs (some 1) none)))) n2
   refine ⟨r1,r2,_,_,rfl,rfl,t2 _ _ upd_same,upd_same,(by rw [cut_tail,cut_one]; simp only [List.length_drop,List.length_take]; exact Nat.le_of_lt (small1000 (by omega))),fun r3 n3=>?_⟩
   have t3:=same_upd (o:=.lst (cutV xs (some 1) none++cutV xs none (some 1))) (Same.refl (upd (upd H r1 (.lst (cutV xs (some 1) none))) r2 (.lst (cutV xs none (some 1))))) n3
   have t13:=(t1.trans t2).trans t3
   have hr3:upd (upd (upd H r1 (.lst (cutV xs (some 1) none))) r2 (.lst (cutV xs none (some 1)))) r3 (.lst (cutV xs (some 1) none++cutV xs none (some 1))) r3 = some (.lst (cutV xs (some 1) none++cutV xs none (some 1))):=upd_same
   generalize (upd (upd (upd H r1 (.lst (cutV xs (some 1) none))) r2 (.lst (cutV xs none (some 1)))) r3 (.lst (cutV xs (some 1) none++cutV xs none (some 1)))) = Hc at t13 hr3
   clear t1 t2 t3
   have hrot:=rot_pts (hp.same t13)
   have lrot:=hrot.length
   rw [rot1_len] at lrot
   refine ⟨a,r3,rfl,⟨_,t13.seq hq⟩,⟨_,SqL.of hr3⟩,fun D hD=>?_⟩
   have sD:Same Hc (upd Hc D (.lst [])):=same_upd (Same.refl Hc) hD
   refine comp_zip (K:=K) (a:=a) (b:=r3) (xs:=xs) (ys:=cutV xs (some 1) none++cutV xs none (some 1)) (fun j σ' H'=>∃ v1 v2 es,σ' = [v1,v2]∧Same Hc H'∧H' D = some (.lst es)∧AreTri H' es ((edgesM R).take j))
    ⟨none,none,[],rfl,sD,upd_same,.nil⟩ (by omega) (fun j σ' H' _ ⟨_,_,_,_,s4,_⟩=>⟨s4.seq (t13.seq hq),s4.seq (SqL.of hr3)⟩) ?_ ?_
   ·rintro j x y TT σ' H' hx hy ⟨v1,v2,es,rfl,s4,h4,w4⟩ nT
    obtain ⟨px,px1,px2⟩:=Pair.get hp hx
    obtain ⟨py,py1,py2⟩:=Pair.get hrot hy
    have hjl:=(List.getElem?_eq_some_iff.mp hx).1
    have lw:=w4.length
    rw [List.length_take,edges_len] at lw
    have s5:=same_upd (o:=.tup [x,y]) (Same.refl H') nT
    have bpy:Bd2 py:=bR py (by
     have:=List.mem_of_getElem? py1
     unfold rot1 at this
     rcases List.mem_append.mp this with z | z
     ·exact List.mem_of_mem_drop z
     ·exact List.mem_of_mem_take z)
    refine ⟨TT,[x,y],rfl,SqT.of upd_same,rfl,_,_,rfl,_,_,rfl,rfl,?_⟩
    dsimp only [tYes]
    refine iteT ⟨_,rfl,_,rfl,x,y,px,py,rfl,px2.same (t13.trans (s4.trans s5)),py2.same (s4.trans s5),(bR px (List.mem_of_getElem? px1)).w,bpy.w,fun t nt=>?_⟩
    have s6:=same_upd (o:=.tup [.int (along px py).1,.int (along px py).2.1,.int (along px py).2.2]) (Same.refl (upd H' TT (.tup [x,y]))) nt
    have s56:=s5.trans s6
    have hDD:=s56 _ _ h4
    refine ⟨es,hDD,small1000 (by omega),_,_,_,rfl,same_upd (s4.trans s56) hD,upd_same,?_⟩
    rw [take_snoc (edge_at px1 py1)]
    refine Pair.append (AreTri.keep w4 ((Same.keep s56).trans (Keep.lst hDD _))) (.cons ⟨t,rfl,?_⟩ .nil)
    have:t ≠ D:=fun e=>by subst e; rw [s5 _ _ h4] at nt; cases nt
    rw [upd_ne this,upd_same]
   ·rintro σ' H1 ⟨v1,v2,es,rfl,s4,h4,w4⟩
    rw [List.take_of_length_le (by rw [edges_len]; omega)] at w4
    have u1:=t13.trans s4
    have le:=w4.length
    rw [edges_len] at le
    refine ⟨_,rfl,a,rfl,⟨_,u1.seq hq⟩,fun D2 hD2=>?_⟩
    have sD2:Same H1 (upd H1 D2 (.lst [])):=same_upd (Same.refl H1) hD2
    refine comp_list (K:=K) (a:=a) (xs:=xs) (fun j σ' H'=>∃ v1 fs,σ' = [v1,some v]∧Same H1 H'∧H' D2 = some (.lst fs)∧AreTri H' fs ((frontsM R p).take j))
     ⟨none,[],rfl,sD2,upd_same,.nil⟩ (fun j σ' H' _ ⟨_,_,_,s5,_⟩=>s5.seq (u1.seq hq)) ?_ ?_
    ·rintro j x σ' H' hx ⟨v1,fs,rfl,s5,h5,w5⟩
     obtain ⟨px,px1,px2⟩:=Pair.get hp hx
     have hjl:=(List.getElem?_eq_some_iff.mp hx).1
     have lw:=w5.length
     rw [List.length_take] at lw
     dsimp only [gName,tYes]
     refine iteT ⟨_,rfl,_,rfl,v,x,p,px,rfl,hv.same (u1.trans s5),px2.same (u1.trans s5),bp.w,(bR px (List.mem_of_getElem? px1)).w,fun t nt=>?_⟩
     have s6:=same_upd (o:=.tup [.int (across p px).1,.int (across p px).2.1,.int (across p px).2.2]) (Same.refl H') nt
     have hDD:=s6 _ _ h5
     refine ⟨fs,hDD,small1000 (by omega),_,_,rfl,same_upd (s5.trans s6) hD2,upd_same,?_⟩
     rw [take_snoc (show (frontsM R p)[j]? = some (across p px) by unfold frontsM; rw [List.getElem?_map,px1]; rfl)]
     refine Pair.append (AreTri.keep w5 ((Same.keep s6).trans (Keep.lst hDD _))) (.cons ⟨t,rfl,?_⟩ .nil)
     have:t ≠ D2:=fun e=>by subst e; rw [h5] at nt; cases nt
     rw [upd_ne this,upd_same]
    ·rintro σ' H2 ⟨v1,fs,rfl,s5,h5,w5⟩
     have lf:(frontsM R p).length = R.length:=by unfold frontsM; rw [List.length_map]
     rw [List.take_of_length_le (by omega)] at w5
     have u2:=u1.trans s5
     have lf2:=w5.length
     refine ⟨_,rfl,_,rfl,D,D2,_,_,rfl,rfl,s5 _ _ h4,h5,Nat.le_of_lt (small1000 (by omega)),fun L nL=>?_⟩
     have s6:=same_upd (o:=.lst (es++fs)) (Same.refl H2) nL
     have u3:=u2.trans s6
     have wa:AreTri (upd H2 L (.lst (es++fs))) (es++fs) (edgesM R++frontsM R p):=Pair.append (w4.same (s5.trans s6)) (w5.same s6)
     have lw:=wa.length
     refine ⟨L,rfl,⟨_,SqL.of upd_same⟩,for_list (K:=K) (a:=L) (xs:=es++fs)
      (fun i σ H3=>∃ vl,σ = [some (.ref a),some v,some (.ref D),some (.ref D2),vl]∧Same (upd H2 L (.lst (es++fs))) H3∧∀ l ∈ (edgesM R++frontsM R p).take i,¬ Out R p l)
      ⟨none,rfl,Same.refl _,fun l hl=>by simp at hl⟩ (fun i σ H3 _ ⟨_,_,s7,_⟩=>s7.seq (SqL.of upd_same)) ?_ ?_⟩
     ·rintro i y σ H3 hi ⟨vl,rfl,s7,no⟩
      obtain ⟨l,l1,l2⟩:=Pair.get wa hi
      have u4:=u3.trans s7
      refine ⟨_,rfl,_,rfl,y,v,l,p,rfl,l2.same s7,hv.same u4,bp.w,_,_,rfl,rfl,_,rfl,?_⟩
      have next:¬ Out R p l→∀ l' ∈ (edgesM R++frontsM R p).take (i+1),¬ Out R p l':=fun h l' hl'=>by
       rw [take_snoc l1] at hl'
       rcases List.mem_append.mp hl' with z | z
       ·exact no l' z
       ·rw [List.mem_singleton] at z; rw [z]; exact h
      by_cases hneg:wrt l p < 0
      ·rw [decide_eq_true hneg]
       refine iteT ⟨_,rfl,a,rfl,⟨_,u4.seq hq⟩,fun D3 hD3=>?_⟩
       have sD3:Same H3 (upd H3 D3 (.lst [])):=same_upd (Same.refl H3) hD3
       refine comp_list (K:=K) (a:=a) (xs:=xs) (fun j σ' H'=>∃ v1,σ' = [v1,some y]∧Same H3 H'∧H' D3 = some (.lst (((R.take j).map fun q=>decide (wrt l q ≥ 0)).map V.bl)))
        ⟨none,rfl,sD3,upd_same⟩ (fun j σ' H' _ ⟨_,_,s8,_⟩=>s8.seq (u4.seq hq)) ?_ ?_
       ·rintro j x σ' H' hx ⟨v1,rfl,s8,h8⟩
        obtain ⟨px,px1,px2⟩:=Pair.get hp hx
        have hjl:=(List.getElem?_eq_some_iff.mp hx).1
        dsimp only [gName,tYes]
        refine iteT ⟨_,rfl,_,rfl,y,x,l,px,rfl,l2.same (s7.trans s8),(px2.same (u4.trans s8)).k,(bR px (List.mem_of_getElem? px1)).w,_,_,rfl,rfl,_,h8,small1000 (by simp; omega),_,rfl,same_upd s8 hD3,?_⟩
        rw [upd_same,take_snoc px1,List.map_append,List.map_append]; rfl
       ·rintro σ' H4 ⟨v1,rfl,s8,h8⟩
        rw [List.take_of_length_le (by omega)] at h8
        refine ⟨D3,_,rfl,SqL.of h8,_,rfl,?_⟩
        refine ite2 (fun c=>?_) (fun c=>?_)
        ·have ho:Out R p l:=⟨hneg,fun q hq=>of_decide_eq_true (all_map.mp c q hq)⟩
         obtain ⟨t,rfl,ht⟩:=l2.same (s7.trans s8)
         exact ⟨_,rfl,kL t l H4 (u4.trans s8) ⟨t,rfl,ht⟩ ho⟩
        ·refine ⟨_,rfl,s7.trans s8,next fun ho=>c (all_map.mpr fun q hq=>decide_eq_true (ho.2 q hq))⟩
      ·rw [decide_eq_false hneg]
       exact iteF (iteF ⟨_,rfl,s7,next fun ho=>hneg ho.1⟩)
     ·rintro σ H3 ⟨vl,rfl,s7,no⟩
      rw [List.take_of_length_le (by omega)] at no
      exact kN H3 (u3.trans s7) ⟨h0,no⟩
end
end Toy
set_option maxRecDepth 100000
namespace Toy
open PySem L2 Geo
theorem adj_at {R:List Pt} {k:Nat} {x y:Pt} (hx:R[k]? = some x) (hy:R[k+1]? = some y):Adj R x y:=by
 obtain ⟨l1,e1⟩:=List.getElem?_eq_some_iff.mp hx
 obtain ⟨l2,e2⟩:=List.getElem?_eq_some_iff.mp hy
 refine ⟨R.take k,R.drop (k+2),?_⟩
 rw [← e1,← e2]
 rw [← List.drop_eq_getElem_cons l2,← List.drop_eq_getElem_cons l1,List.take_append_drop]
structure Fan (R:List Pt) (p e0:Pt):Prop where
 fst:R[0]? = some e0
 edge:∀ i x y,R[i]? = some x→R[i+1]? = some y→0≤turn x y p
 last:∀ z,R[R.length - 1]? = some z→turn e0 z p≤0
 fan:∀ i x y,1≤i→R[i]? = some x→R[i+1]? = some y→0 < turn e0 x y
theorem cases_of {ps:List Pt} {p:Pt} (hb:∀ q ∈ ps,Bd2 q) (h:NoShut (cornersM ps) p) :
  (∃ a,cornersM ps = [a]∧ShOk [a] p [(a,1)])∨(∃ a z,cornersM ps = [a,z]∧ShOk [a,z] p [(a,reachM a z z - reachM a z p),(z,reachM a z p)])∨(3≤(cornersM ps).length∧∃ e0,Fan (cornersM ps) p e0):=by
 have hS:=uniqP_inc hb
 by_cases h2:2≤(uniqP ps).length
 ·obtain ⟨a,z,Lx,Ux,T⟩:=two_of hS h2
  have hc:cornersM ps = a :: Lx++z :: Ux:=T.out
  have mem:∀ q ∈ cornersM ps,Bd2 q:=fun q hq=>hb q (cornersM_sub hb q hq)
  cases Lx with
  | nil =>
   cases Ux with
   | nil =>
    right; left
    have hc':cornersM ps = [a,z]:=hc
    refine ⟨a,z,hc',two_ok T (mem a (by rw [hc']; simp)) (mem z (by rw [hc']; simp)) (by rw [← hc']; exact h) hc'⟩
   | cons c r =>
    right; right
    refine ⟨by rw [hc]; simp <;> omega,a,?_⟩
    exact ⟨by rw [hc]; rfl,fun i x y hx hy=>NoShut.left T h x y (.inl (adj_at hx hy)),fun w hw=>by
     have:=NoShut.left T h w a (.inr ⟨by rw [List.getLast?_eq_getElem?]; exact hw,by rw [show hullR (uniqP ps) = _ from hc]; rfl⟩)
     rw [turn_swap] at this; omega,fun i x y hi hx hy=>by
     obtain ⟨j,rfl⟩:∃ j,i = j+1:=⟨i - 1,by omega⟩
     rw [hc] at hx hy
     exact T.fan (adj_at (k:=j) (by simpa using hx) (by simpa using hy))⟩
  | cons c r =>
   right; right
   refine ⟨by rw [hc]; simp <;> omega,a,?_⟩
   exact ⟨by rw [hc]; rfl,fun i x y hx hy=>NoShut.left T h x y (.inl (adj_at hx hy)),fun w hw=>by
    have:=NoShut.left T h w a (.inr ⟨by rw [List.getLast?_eq_getElem?]; exact hw,by rw [show hullR (uniqP ps) = _ from hc]; rfl⟩)
    rw [turn_swap] at this; omega,fun i x y hi hx hy=>by
    obtain ⟨j,rfl⟩:∃ j,i = j+1:=⟨i - 1,by omega⟩
    rw [hc] at hx hy
    exact T.fan (adj_at (k:=j) (by simpa using hx) (by simpa using hy))⟩
 ·left
  have hc:cornersM ps = uniqP ps:=by unfold cornersM hullR; rw [if_pos (by omega)]
  match e:uniqP ps,h2 with
  | [],_=>exact absurd (hc.trans e) h.1
  | [a],_ =>
   rw [e] at hc
   exact ⟨a,hc,one_ok (by rw [← hc]; exact h)⟩
  | _ :: _ :: _,h2=>simp at h2
section
variable {P:Program} {w:World} {K:PySem.W.Frag} {mg:Str→Option Value} {base:Heap}
def spBetween (K:PySem.W.Frag):Sp:=fun vs H Q _=>∃ u v w a b p,vs = [u,v,w]∧IsPt H u a∧IsPt H v b∧IsPtK K H w p∧Bw a∧Bw b∧Bw p ∧
 ∀ r zs H',H r = none→Same H H'→H' r = some (.lst zs)→AreSh H' zs [(a,reachM a b b - reachM a b p),(b,reachM a b p)]→Q (.ref r) H'
theorem scBetween:FnScope ["tail","head","point","share"] ["tail","head","point"] (defScope sBetween):=⟨rfl,rfl,rfl,by decide +kernel,rfl,by decide +kernel,by decide +kernel⟩
theorem ok_between {f g:Addr} {fd gd:FuncData} (F:Fun K "shares_between" "shares_between" sBetween f fd) (G:FnOk P w K mg base CX0 1 g gd ["tail","head","point"] (spReach K)) (bG:Binds K gd ["tail","head","point"] []) (kG:PySem.W.keepIn K (.ref g) = true) (mG:mg "reach" = some (.ref g)) :
  FnOk P w K mg base CX0 2 f fd ["tail","head","point"] (spBetween K):=by
 refine F.ok scBetween (fun vs H Q E h=>?_) (fun cdv A outer s H vs Q E hr h=>?_)
 ·obtain ⟨u,v,w,a,b,p,rfl,_⟩:=h; rfl
 ·obtain ⟨u,v,w,a,b,p,rfl,hu,hv,hw,ba,bb,bp,k⟩:=h
  refine ⟨_,pss_cons (ps_set (i:=3) scBetween.nd rfl (Or.inl rfl) (pe_call G hr rfl mG kG bG .nil pass0 (pa_cons (pv 0) (pa_cons (pv 1) (pa_cons (pv 2) pa_nil)))))
   (pss_one (ps_ret (pe_lst (pa_cons (pe_tup (pa_cons (pv 0) (pa_cons (pe_op op_sub (pe_call G hr rfl mG kG bG .nil pass0 (pa_cons (pv 0) (pa_cons (pv 1) (pa_cons (pv 1) pa_nil)))) (pv 3)) pa_nil))) (pa_cons (pe_tup (pa_cons (pv 1) (pa_cons (pv 3) pa_nil))) pa_nil))))),?_⟩
  refine ⟨_,rfl,_,rfl,_,rfl,u,v,w,a,b,p,rfl,hu,hv,hw,ba,bb,bp,?_⟩
  refine ⟨_,rfl,_,rfl,_,rfl,_,rfl,u,v,v,a,b,b,rfl,hu,hv,hv.k,ba,bb,bb,_,rfl,_,_,rfl,rfl,(by show 2≤sizeLine; decide),fun t1 n1=>?_⟩
  have s1:=same_upd (o:=.tup [u,.int (reachM a b b - reachM a b p)]) (Same.refl H) n1
  refine ⟨_,rfl,_,rfl,(by show 2≤sizeLine; decide),fun t2 n2=>?_⟩
  have s2:=same_upd (o:=.tup [v,.int (reachM a b p)]) (Same.refl (upd H t1 (.tup [u,.int (reachM a b b - reachM a b p)]))) n2
  refine ⟨(by show 2≤sizeLine; decide),fun r n3=>?_⟩
  have s3:=same_upd (o:=.lst [.ref t1,.ref t2]) (Same.refl (upd (upd H t1 (.tup [u,.int (reachM a b b - reachM a b p)])) t2 (.tup [v,.int (reachM a b p)]))) n3
  have s13:=s1.trans (s2.trans s3)
  refine k r _ _ ((s1.trans s2).free n3) s13 upd_same ?_
  refine .cons ⟨t1,u,rfl,(s2.trans s3) _ _ upd_same,hu.same s13⟩ (.cons ⟨t2,v,rfl,s3 _ _ upd_same,hv.same s13⟩ .nil)
def spOf3 (K:PySem.W.Frag):Sp:=fun vs H Q _=>∃ t u v w a b c p,vs = [t,u,v,w]∧IsPt H t a∧IsPt H u b∧IsPt H v c∧IsPtK K H w p∧Bw a∧Bw b∧Bw c∧Bw p ∧
 ∀ r zs H',H r = none→Same H H'→H' r = some (.lst zs)→AreSh H' zs [(a,turn b c p),(b,turn c a p),(c,turn a b p)]→Q (.ref r) H'
theorem scOf3:FnScope ["one","two","three","point"] ["one","two","three","point"] (defScope sOf3):=⟨rfl,rfl,rfl,by decide +kernel,rfl,by decide +kernel,by decide +kernel⟩
theorem ok_of3 {f g:Addr} {fd gd:FuncData} (F:Fun K "shares_of_three" "shares_of_three" sOf3 f fd) (G:FnOk P w K mg base CX0 1 g gd ["tail","head","point"] (spTurn K)) (bG:Binds K gd ["tail","head","point"] []) (kG:PySem.W.keepIn K (.ref g) = true) (mG:mg "turn" = some (.ref g)) :
  FnOk P w K mg base CX0 2 f fd ["one","two","three","point"] (spOf3 K):=by
 refine F.ok scOf3 (fun vs H Q E h=>?_) (fun cdv A outer s H vs Q E hr h=>?_)
 ·obtain ⟨t,u,v,w,a,b,c,p,rfl,_⟩:=h; rfl
 ·obtain ⟨t,u,v,w,a,b,c,p,rfl,ht,hu,hv,hw,ba,bb,bc,bp,k⟩:=h
  refine ⟨_,pss_one (ps_ret (pe_lst (pa_cons (pe_tup (pa_cons (pv 0) (pa_cons (pe_call G hr rfl mG kG bG .nil pass0 (pa_cons (pv 1) (pa_cons (pv 2) (pa_cons (pv 3) pa_nil)))) pa_nil)))
   (pa_cons (pe_tup (pa_cons (pv 1) (pa_cons (pe_call G hr rfl mG kG bG .nil pass0 (pa_cons (pv 2) (pa_cons (pv 0) (pa_cons (pv 3) pa_nil)))) pa_nil)))
   (pa_cons (pe_tup (pa_cons (pv 2) (pa_cons (pe_call G hr rfl mG kG bG .nil pass0 (pa_cons (pv 0) (pa_cons (pv 1) (pa_cons (pv 3) pa_nil)))) pa_nil))) pa_nil))))),?_⟩
  refine ⟨_,rfl,_,rfl,_,rfl,_,rfl,u,v,w,b,c,p,rfl,hu,hv,hw,bb,bc,bp,(by show 2≤sizeLine; decide),fun t1 n1=>?_⟩
  have s1:=same_upd (o:=.tup [t,.int (turn b c p)]) (Same.refl H) n1
  refine ⟨_,rfl,_,rfl,_,rfl,_,rfl,v,t,w,c,a,p,rfl,hv.same s1,ht.same s1,hw.same s1,bc,ba,bp,(by show 2≤sizeLine; decide),fun t2 n2=>?_⟩
  have s2:=same_upd (o:=.tup [u,.int (turn c a p)]) (Same.refl (upd H t1 (.tup [t,.int (turn b c p)]))) n2
  have s12:=s1.trans s2
  refine ⟨_,rfl,_,rfl,_,rfl,_,rfl,t,u,w,a,b,p,rfl,ht.same s12,hu.same s12,hw.same s12,ba,bb,bp,(by show 2≤sizeLine; decide),fun t3 n3=>?_⟩
  have s3:=same_upd (o:=.tup [v,.int (turn a b p)]) (Same.refl (upd (upd H t1 (.tup [t,.int (turn b c p)])) t2 (.tup [u,.int (turn c a p)]))) n3
  refine ⟨(by show 3≤sizeLine; decide),fun r n4=>?_⟩
  have s4:=same_upd (o:=.lst [.ref t1,.ref t2,.ref t3]) (Same.refl (upd (upd (upd H t1 (.tup [t,.int (turn b c p)])) t2 (.tup [u,.int (turn c a p)])) t3 (.tup [v,.int (turn a b p)]))) n4
  have s14:=s12.trans (s3.trans s4)
  refine k r _ _ ((s12.trans s3).free n4) s14 upd_same ?_
  refine .cons ⟨t1,t,rfl,(s2.trans (s3.trans s4)) _ _ upd_same,ht.same s14⟩ (.cons ⟨t2,u,rfl,(s3.trans s4) _ _ upd_same,hu.same s14⟩ (.cons ⟨t3,v,rfl,s4 _ _ upd_same,hv.same s14⟩ .nil))
def spShares (K:PySem.W.Frag):Sp:=fun vs H Q _=>∃ a xs ps v p,vs = [.ref a,v]∧SqL K H a xs∧ArePts H xs (cornersM ps)∧(cornersM ps).length≤300∧(∀ q ∈ ps,Bd2 q)∧IsPtK K H v p∧Bd2 p∧NoShut (cornersM ps) p ∧
 ∀ r zs sh H',H r = none→Same H H'→H' r = some (.lst zs)→AreSh H' zs sh→ShOk (cornersM ps) p sh→Q (.ref r) H'
theorem scShares:FnScope ["ends","point","k"] ["ends","point"] (defScope sShares):=⟨rfl,rfl,rfl,by decide +kernel,rfl,by decide +kernel,by decide +kernel⟩
theorem ok_shares {f g1 g2 g3:Addr} {fd d1 d2 d3:FuncData} (F:Fun K "shares_within" "shares_within" sShares f fd) (T:Txt mg)
  (B:FnOk P w K mg base CX0 2 g1 d1 ["tail","head","point"] (spBetween K)) (b1:Binds K d1 ["tail","head","point"] []) (k1:PySem.W.keepIn K (.ref g1) = true) (m1:mg "shares_between" = some (.ref g1))
  (G:FnOk P w K mg base CX0 1 g2 d2 ["tail","head","point"] (spTurn K)) (b2:Binds K d2 ["tail","head","point"] []) (k2:PySem.W.keepIn K (.ref g2) = true) (m2:mg "turn" = some (.ref g2))
  (O:FnOk P w K mg base CX0 2 g3 d3 ["one","two","three","point"] (spOf3 K)) (b3:Binds K d3 ["one","two","three","point"] []) (k3:PySem.W.keepIn K (.ref g3) = true) (m3:mg "shares_of_three" = some (.ref g3)) :
  FnOk P w K mg base CX0 3 f fd ["ends","point"] (spShares K):=by
 refine F.ok scShares (fun vs H Q E h=>?_) (fun cdv A outer s H vs Q E hr h=>?_)
 ·obtain ⟨a,xs,ps,v,p,rfl,_⟩:=h; rfl
 ·obtain ⟨a,xs,ps,v,p,rfl,hq,hp,hl,hb,hv,bp,no,k⟩:=h
  have lx:=hp.length
  have mem:∀ q ∈ cornersM ps,Bd2 q:=fun q hq=>hb q (cornersM_sub hb q hq)
  refine ⟨_,pss_cons (ps_if (pt_cmpR op_eq (pe_callB call_len_seq rfl T.len PySem.boot_len (pa_cons (pv 0) pa_nil)) pe_int (nomark _)) (pss_one (ps_ret (pe_lst (pa_cons (pe_tup (pa_cons (pe_ix ix_list (pv 0) pe_int (fun _ _=>rfl)) (pa_cons pe_int pa_nil))) pa_nil)))) pss_nil)
   (pss_cons (ps_if (pt_cmpR op_eq (pe_callB call_len_seq rfl T.len PySem.boot_len (pa_cons (pv 0) pa_nil)) pe_int (nomark _)) (pss_one (ps_ret (pe_call B hr rfl m1 k1 b1 .nil pass0 (pa_cons (pe_ix ix_list (pv 0) pe_int (fun _ _=>rfl)) (pa_cons (pe_ix ix_list (pv 0) pe_int (fun _ _=>rfl)) (pa_cons (pv 1) pa_nil)))))) pss_nil)
   (pss_cons (ps_set (i:=2) scShares.nd rfl (Or.inl rfl) pe_int)
   (pss_cons (ps_while PassesOwn.never (pt_cmpR op_gt (pe_call G (hr.mono (by decide)) rfl m2 k2 b2 .nil pass0 (pa_cons (pe_ix ix_list (pv 0) pe_int (fun _ _=>rfl)) (pa_cons (pe_ix ix_list (pv 0) (pe_op op_add (pv 2) pe_int) (fun _ _=>rfl)) (pa_cons (pv 1) pa_nil)))) pe_int (nomark _))
    (pss_one (ps_aug (i:=2) scShares.nd rfl (Or.inl rfl) pe_int ip_add)))
   (pss_one (ps_ret (pe_call O hr rfl m3 k3 b3 .nil pass0 (pa_cons (pe_ix ix_list (pv 0) pe_int (fun _ _=>rfl)) (pa_cons (pe_ix ix_list (pv 0) (pv 2) (fun _ _=>rfl)) (pa_cons (pe_ix ix_list (pv 0) (pe_op op_add (pv 2) pe_int) (fun _ _=>rfl)) (pa_cons (pv 1) pa_nil)))))))))),?_⟩
  refine ⟨_,rfl,a,_,rfl,.inl hq,rfl,_,rfl,?_⟩
  rcases cases_of hb no with ⟨a1,hc,ok⟩ | ⟨a1,z1,hc,ok⟩ | ⟨h3,e0,fan⟩
  ·rw [hc] at hp lx
   rw [show decide (V.int (xs.length:Int) = V.int 1) = true by rw [lx]; rfl]
   obtain ⟨u,u1,u2⟩:=Pair.get' hp (i:=0) (y:=a1) rfl
   refine iteT ⟨_,rfl,a,_,_,_,rfl,rfl,hq,atI_nat u1,(by show 2≤sizeLine; decide),fun t n1=>?_⟩
   have s1:=same_upd (o:=.tup [u,.int 1]) (Same.refl H) n1
   refine ⟨(by show 1≤sizeLine; decide),fun r n2=>?_⟩
   have s2:=same_upd (o:=.lst [.ref t]) (Same.refl (upd H t (.tup [u,.int 1]))) n2
   exact k r _ [(a1,1)] _ (s1.free n2) (s1.trans s2) upd_same (.cons ⟨t,u,rfl,s2 _ _ upd_same,u2.same (s1.trans s2)⟩ .nil) (by rw [hc]; exact ok)
  ·have mm:=mem
   rw [hc] at hp lx mm
   rw [show decide (V.int (xs.length:Int) = V.int 1) = false by rw [lx]; rfl]
   refine iteF ⟨_,rfl,a,_,rfl,.inl hq,rfl,_,rfl,?_⟩
   rw [show decide (V.int (xs.length:Int) = V.int 2) = true by rw [lx]; rfl]
   obtain ⟨u,u1,u2⟩:=Pair.get' hp (i:=0) (y:=a1) rfl
   obtain ⟨y,y1,y2⟩:=Pair.get' hp (i:=1) (y:=z1) rfl
   refine iteT ⟨_,rfl,a,_,_,_,rfl,rfl,hq,atI_nat u1,_,rfl,a,_,_,_,rfl,rfl,hq,atI_nat y1,_,rfl,u,y,v,a1,z1,p,rfl,u2,y2,hv,(mm a1 (by simp)).w,(mm z1 (by simp)).w,bp.w,fun r zs H' n s' h' w'=>?_⟩
   exact k r zs _ H' n s' h' w' (by rw [hc]; exact ok)
  ·rw [decide_eq_false (show ¬ V.int (xs.length:Int) = V.int 1 from fun e=>by have:=V.int.inj e; omega)]
   refine iteF ⟨_,rfl,a,_,rfl,.inl hq,rfl,_,rfl,?_⟩
   rw [decide_eq_false (show ¬ V.int (xs.length:Int) = V.int 2 from fun e=>by have:=V.int.inj e; omega)]
   refine iteF ?_
   obtain ⟨u0,u01,u02⟩:=Pair.get' hp fan.fst
   have m0:e0 ∈ cornersM ps:=List.mem_of_getElem? fan.fst
   have at':∀ {i:Nat},i < xs.length→∃ (u:V) (q:Pt),xs[i]? = some u∧IsPt H u q∧(cornersM ps)[i]? = some q∧q ∈ cornersM ps:=fun {i} hi=>by
    obtain ⟨q,q1,q2⟩:=Pair.get (i:=i) (x:=xs[i]) hp (by simp [hi])
    exact ⟨xs[i],q,by simp [hi],q2,q1,List.mem_of_getElem? q1⟩
   refine ⟨fun m σ' H3=>∃ (i:Nat) (x:Pt),σ' = [some (.ref a),some v,some (.int (i:Int))]∧H3 = H∧m = xs.length - i∧1≤i∧i+1 < xs.length∧(cornersM ps)[i]? = some x∧0≤turn e0 x p,?_,?_⟩
   ·obtain ⟨u,q,_,_,q3,_⟩:=at' (i:=1) (by omega)
    exact ⟨_,1,q,rfl,rfl,rfl,Nat.le_refl _,by omega,q3,fan.edge 0 e0 q fan.fst q3⟩
   ·rintro m σ' H3 ⟨i,x,rfl,rfl,rfl,hi1,hi2,hx,htx⟩
    obtain ⟨uy,y,y1,y2,y3,my⟩:=at' (i:=i+1) hi2
    obtain ⟨ux,x',x1,x2,x3,mx⟩:=at' (i:=i) (by omega)
    rw [hx] at x3; cases x3
    have ey:atI xs ((i:Int)+1) = some uy:=by have:=atI_nat y1; rw [show (((i+1:Nat)):Int) = (i:Int)+1 by omega] at this; exact this
    refine ⟨_,rfl,a,_,_,_,rfl,rfl,hq,atI_nat (j:=0) u01,_,rfl,_,rfl,_,_,rfl,rfl,a,_,_,_,rfl,rfl,hq,ey,_,rfl,u0,uy,v,e0,y,p,rfl,u02,y2,hv,(mem _ m0).w,(mem _ my).w,bp.w,_,_,rfl,rfl,_,rfl,?_⟩
    by_cases ht:0 < turn e0 y p
    ·rw [decide_eq_true ht]
     have hne:i+1 ≠ xs.length - 1:=fun e=>by
      have:=fan.last y (by rw [← lx,← e]; exact y3)
      omega
     refine iteT ⟨fun σ4 H4=>σ4 = [some (.ref a),some v,some (.int ((i+1:Nat):Int))]∧H4 = H3,fun σ4 H4 ⟨e4,e5⟩=>⟨xs.length - (i+1),by omega,i+1,y,e4,e5,rfl,by omega,by omega,y3,by omega⟩,?_⟩
     exact ⟨_,rfl,_,_,rfl,rfl,by show _ = _; simp,rfl⟩
    ·rw [decide_eq_false ht]
     refine iteF ?_
     refine ⟨_,rfl,a,_,_,_,rfl,rfl,hq,atI_nat (j:=0) u01,_,rfl,_,rfl,a,_,_,_,rfl,rfl,hq,atI_nat x1,_,rfl,_,rfl,_,_,rfl,rfl,a,_,_,_,rfl,rfl,hq,ey,_,rfl,u0,ux,uy,v,e0,x,y,p,rfl,u02,x2,y2,hv,(mem _ m0).w,(mem _ mx).w,(mem _ my).w,bp.w,fun r zs H' n s' h' w'=>?_⟩
     refine k r zs _ H' n s' h' w' (three_ok m0 mx my (mem _ m0) (mem _ mx) (mem _ my) (fan.fan i x y hi1 hx y3) htx (fan.edge i x y hx y3) ?_)
     rw [turn_swap]; omega
end
end Toy
set_option maxRecDepth 100000
namespace Toy
open PySem L2 Geo
section
variable {P:Program} {w:World} {K:PySem.W.Frag} {mg:Str→Option Value} {base:Heap}
def spLowest:Sp:=fun vs H Q _=>∃ v t,vs = [v]∧IsTri H v t∧0 < gcd3 t∧gcd3 t < 2 ^ 200∧∀ r,H r = none→Q (.ref r) (upd H r (.tup [.int (lowM t).1,.int (lowM t).2.1,.int (lowM t).2.2]))
theorem scLowest:FnScope ["three","common"] ["three"] (defScope sLowest):=⟨rfl,rfl,rfl,by decide +kernel,rfl,by decide +kernel,by decide +kernel⟩
theorem absI (i:Int):(if i < 0 then -i else i) = (i.natAbs:Int):=by split <;> omega
theorem gcd3_abs (t:Tri):Int.gcd (Int.gcd (t.1.natAbs:Int) (t.2.1.natAbs:Int):Nat) (t.2.2.natAbs:Int) = gcd3 t:=by
 unfold gcd3
 simp only [Int.gcd,Int.natAbs_natCast]
theorem ok_lowest {f g:Addr} {fd gd:FuncData} (F:Fun K "lowest" "lowest" sLowest f fd) (T:Txt mg) (G:FnOk P w K mg base CX0 1 g gd ["one","other"] spGcd) (bG:Binds K gd ["one","other"] []) (kG:PySem.W.keepIn K (.ref g) = true) (mG:mg "greatest_divisor" = some (.ref g)) :
  FnOk P w K mg base CX0 2 f fd ["three"] spLowest:=by
 refine F.ok scLowest (fun vs H Q E h=>?_) (fun cdv A' outer s H vs Q E hr h=>?_)
 ·obtain ⟨v,t,rfl,_⟩:=h; rfl
 ·obtain ⟨v,t,rfl,⟨a,rfl,ha⟩,g0,g1,k⟩:=h
  refine ⟨_,pss_cons (ps_set (i:=1) scLowest.nd rfl (Or.inl rfl) (pe_call G hr rfl mG kG bG .nil pass0 (pa_cons (pe_call G hr rfl mG kG bG .nil pass0 (pa_cons (pe_callB call_abs rfl T.abs PyProof.Rows.boot_abs (pa_cons (pe_ix ix_tup (pv 0) pe_int (fun _ _=>rfl)) pa_nil)) (pa_cons (pe_callB call_abs rfl T.abs PyProof.Rows.boot_abs (pa_cons (pe_ix ix_tup (pv 0) pe_int (fun _ _=>rfl)) pa_nil)) pa_nil))) (pa_cons (pe_callB call_abs rfl T.abs PyProof.Rows.boot_abs (pa_cons (pe_ix ix_tup (pv 0) pe_int (fun _ _=>rfl)) pa_nil)) pa_nil))))
   (pss_one (ps_ret (pe_tup (pa_cons (pe_op op_fdivB (pe_ix ix_tup (pv 0) pe_int (fun _ _=>rfl)) (pv 1)) (pa_cons (pe_op op_fdivB (pe_ix ix_tup (pv 0) pe_int (fun _ _=>rfl)) (pv 1)) (pa_cons (pe_op op_fdivB (pe_ix ix_tup (pv 0) pe_int (fun _ _=>rfl)) (pv 1)) pa_nil)))))),?_⟩
  refine ⟨_,rfl,a,_,_,_,rfl,rfl,SqT.of ha,atI_nat (j:=0) rfl,_,rfl,_,rfl,a,_,_,_,rfl,rfl,SqT.of ha,atI_nat (j:=1) rfl,_,rfl,(t.1.natAbs:Int),(t.2.1.natAbs:Int),by rw [absI,absI]; rfl,by omega,by omega,?_⟩
  refine ⟨_,rfl,a,_,_,_,rfl,rfl,SqT.of ha,atI_nat (j:=2) rfl,_,rfl,((Int.gcd (t.1.natAbs:Int) (t.2.1.natAbs:Int):Nat):Int),(t.2.2.natAbs:Int),by rw [absI]; rfl,by omega,by omega,?_⟩
  rw [gcd3_abs]
  have p0:(0:Int) < (gcd3 t:Nat):=by omega
  have p1:((gcd3 t:Nat):Int) < 2 ^ 200:=by omega
  refine ⟨_,rfl,a,_,_,_,rfl,rfl,SqT.of ha,atI_nat (j:=0) rfl,_,rfl,_,_,rfl,rfl,⟨p0,p1⟩,?_⟩
  refine ⟨_,rfl,a,_,_,_,rfl,rfl,SqT.of ha,atI_nat (j:=1) rfl,_,rfl,_,_,rfl,rfl,⟨p0,p1⟩,?_⟩
  refine ⟨_,rfl,a,_,_,_,rfl,rfl,SqT.of ha,atI_nat (j:=2) rfl,_,rfl,_,_,rfl,rfl,⟨p0,p1⟩,?_⟩
  exact ⟨(by show 3≤sizeLine; decide),fun r hr'=>k r hr'⟩
end
end Toy
set_option maxRecDepth 100000
namespace Toy
open PySem L2 Geo
def kpt (d:Pt):List Key:=[Sum.inl d.1,Sum.inl d.2]
theorem kpt_inj {a b:Pt} (h:kpt a = kpt b):a = b:=by
 unfold kpt at h
 injection h with h1 h2
 injection h2 with h2 _
 injection h1 with h1
 injection h2 with h2
 exact Prod.ext h1 h2
def StepAt (H:Hp) (kv:List Key×V) (e:Pt×Pt):Prop:=kv.1 = kpt e.1∧IsPt H kv.2 e.2
abbrev AreSteps (H:Hp):List (List Key×V)→List (Pt×Pt)→Prop:=Paired (StepAt H)
def putE:List (Pt×Pt)→Pt→Pt→List (Pt×Pt)
 | [],d,v=>[(d,v)]
 | e :: r,d,v=>if e.1 = d then (e.1,v) :: r else e :: putE r d v
theorem putE_mem {d v:Pt}:∀ {es:List (Pt×Pt)} {e:Pt×Pt},e ∈ putE es d v→e = (d,v)∨e ∈ es
 | [],e,h=>by simp [putE] at h; exact .inl h
 | x :: r,e,h=>by
  unfold putE at h
  by_cases q:x.1 = d
  ·rw [if_pos q] at h
   rcases List.mem_cons.mp h with z | z
   ·left; rw [z,q]
   ·right; simp [z]
  ·rw [if_neg q] at h
   rcases List.mem_cons.mp h with z | z
   ·right; simp [z]
   ·rcases putE_mem z with y | y
    ·exact .inl y
    ·right; simp [y]
theorem putE_keys {d v:Pt}:∀ {es:List (Pt×Pt)} {k:Pt},k ∈ (putE es d v).map (·.1)↔k = d∨k ∈ es.map (·.1)
 | [],k=>by simp [putE]
 | x :: r,k=>by
  unfold putE
  by_cases q:x.1 = d
  ·rw [if_pos q]; simp only [List.map_cons,List.mem_cons,q]
   constructor
   ·intro z; exact .inr z
   ·rintro (z | z)
    ·exact .inl z
    ·exact z
  ·rw [if_neg q]; simp only [List.map_cons,List.mem_cons,putE_keys (es:=r)]
   constructor
   ·rintro (z | z | z)
    ·exact .inr (.inl z)
    ·exact .inl z
    ·exact .inr (.inr z)
   ·rintro (z | z | z)
    ·exact .inr (.inl z)
    ·exact .inl z
    ·exact .inr (.inr z)
theorem putE_nd {d v:Pt}:∀ {es:List (Pt×Pt)},(es.map (·.1)).Nodup→((putE es d v).map (·.1)).Nodup
 | [],_=>by simp [putE]
 | x :: r,h=>by
  unfold putE
  by_cases q:x.1 = d
  ·rw [if_pos q]; exact h
  ·rw [if_neg q]
   rw [List.map_cons,List.nodup_cons] at h ⊢
   refine ⟨fun z=>?_,putE_nd h.2⟩
   rcases putE_keys.mp z with y | y
   ·exact q y
   ·exact h.1 y
theorem putE_len {d v:Pt}:∀ {es:List (Pt×Pt)},(putE es d v).length≤es.length+1
 | []=>by simp [putE]
 | x :: r=>by
  unfold putE
  by_cases q:x.1 = d
  ·rw [if_pos q]; simp
  ·rw [if_neg q]; have:=putE_len (d:=d) (v:=v) (es:=r); simp; omega
theorem putK_cons {p:List Key×V} {r:List (List Key×V)} {k:List Key} {v:V} (h:p.1 = k) (hn:k ∉ r.map (·.1)):putK (p :: r) k v = (p.1,v) :: r:=by
 have e:r.map (fun kv=>if kv.1 = k then (kv.1,v) else kv) = r:=by
  conv=>rhs; rw [← List.map_id r]
  refine List.map_congr_left fun q hq=>?_
  rw [if_neg (fun z=>hn (List.mem_map.mpr ⟨q,hq,z⟩))]; rfl
 unfold putK
 rw [if_pos (by simp [h]),List.map_cons,if_pos h,e]
theorem putK_skip {p:List Key×V} {r:List (List Key×V)} {k:List Key} {v:V} (h:¬ p.1 = k):putK (p :: r) k v = p :: putK r k v:=by
 unfold putK
 rw [List.any_cons,show decide (p.1 = k) = false from decide_eq_false h,Bool.false_or]
 by_cases q:(r.any fun kv=>decide (kv.1 = k)) = true
 ·rw [if_pos q,if_pos q,List.map_cons,if_neg h]
 ·rw [if_neg q,if_neg q]; rfl
theorem steps_put {H:Hp} {d n:Pt} {v:V} (hv:IsPt H v n):∀ {kvs:List (List Key×V)} {es:List (Pt×Pt)},AreSteps H kvs es→(es.map (·.1)).Nodup→AreSteps H (putK kvs (kpt d) v) (putE es d n)
 | _,_,.nil,_=>.cons ⟨rfl,hv⟩ .nil
 | p :: kvs,e :: es,.cons h t,nd=>by
  rw [List.map_cons,List.nodup_cons] at nd
  unfold putE
  by_cases q:e.1 = d
  ·rw [if_pos q,putK_cons (by rw [h.1,q])]
   ·exact .cons ⟨h.1,hv⟩ t
   ·intro z
    obtain ⟨x,hx,ex⟩:=List.mem_map.mp z
    obtain ⟨i,hi⟩:=List.mem_iff_getElem?.mp hx
    obtain ⟨y,y1,y2⟩:=Pair.get t hi
    have:y.1 = d:=kpt_inj (y2.1.symm.trans ex)
    exact nd.1 (by rw [q,← this]; exact List.mem_map.mpr ⟨y,List.mem_of_getElem? y1,rfl⟩)
  ·rw [if_neg q,putK_skip (fun z=>q (kpt_inj (h.1.symm.trans z)))]
   exact .cons h (steps_put hv t nd.2)
theorem steps_val {H:Hp} {d n:Pt}:∀ {kvs:List (List Key×V)} {es:List (Pt×Pt)},AreSteps H kvs es→(es.map (·.1)).Nodup→(d,n) ∈ es→∃ v,valV kvs (kpt d) = some v∧IsPt H v n
 | [],_,h,_,hm=>by cases h; simp at hm
 | p :: kvs,e :: es,.cons h t,nd,hm=>by
  rw [List.map_cons,List.nodup_cons] at nd
  by_cases q:e.1 = d
  ·rcases List.mem_cons.mp hm with z | z
   ·exact ⟨p.2,valV_pos (by rw [h.1,q]),by rw [← z] at h; exact h.2⟩
   ·exact absurd (List.mem_map.mpr ⟨_,z,q.symm⟩) nd.1
  ·rcases List.mem_cons.mp hm with z | z
   ·exact absurd (by rw [← z]) q
   ·obtain ⟨v,v1,v2⟩:=steps_val t nd.2 z
    exact ⟨v,by rw [valV_neg (fun z=>q (kpt_inj (h.1.symm.trans z)))]; exact v1,v2⟩
structure StepsOk (A B:List Pt) (es:List (Pt×Pt)):Prop where
 nd:(es.map (·.1)).Nodup
 ix:∀ e ∈ es,0≤e.2.1∧e.2.1 < A.length∧0≤e.2.2∧e.2.2 < B.length∧e.1 = subP (ptAt A e.2.1) (ptAt B e.2.2)
section
variable {P:Program} {w:World} {K:PySem.W.Frag} {mg:Str→Option Value} {base:Heap}
abbrev n_sSteps:List Str:=["ones","others","steps","one_number","one","other_number","other"]
def spSteps (K:PySem.W.Frag):Sp:=fun vs H Q _=>∃ a xs A b ys B,vs = [.ref a,.ref b]∧SqL K H a xs∧ArePts H xs A∧SqL K H b ys∧ArePts H ys B∧A.length * B.length≤200 ∧
 ∀ r kvs es H',H r = none→Same H H'→H' r = some (.dT kvs)→AreSteps H' kvs es→StepsOk A B es→(∀ p ∈ A,∀ q ∈ B,subP p q ∈ es.map (·.1))→es.length≤A.length * B.length→Q (.ref r) H'
theorem scSteps:FnScope n_sSteps ["ones","others"] (defScope sSteps):=⟨rfl,rfl,rfl,by decide +kernel,rfl,by decide +kernel,by decide +kernel⟩
theorem ptAt_get {A:List Pt} {i:Nat} {p:Pt} (h:A[i]? = some p):ptAt A (i:Nat) = p:=by
 unfold ptAt; rw [Int.toNat_natCast,List.getD_eq_getElem?_getD,h]; rfl
theorem Keep.dT {H:Hp} {r:Addr} {kvs:List (List Key×V)} (h:H r = some (.dT kvs)) (o:HO):Keep H (upd H r o):=fun a ys e=>by rw [upd_ne (ne_of e h (by intro z; cases z))]; exact e
theorem AreSteps.keep {H H':Hp} {kvs:List (List Key×V)} {es:List (Pt×Pt)} (h:AreSteps H kvs es) (k:Keep H H'):AreSteps H' kvs es:=Paired.mapP h fun _ _ z=>⟨z.1,z.2.keep k⟩
theorem ok_steps {f:Addr} {fd:FuncData} (F:Fun K "steps_between" "steps_between" sSteps f fd) (T:Txt mg):FnOk P w K mg base CX0 1 f fd ["ones","others"] (spSteps K):=by
 refine F.ok scSteps (fun vs H Q E h=>?_) (fun cdv A' outer s H vs Q E hr h=>?_)
 ·obtain ⟨a,xs,A,b,ys,B,rfl,_⟩:=h; rfl
 ·obtain ⟨a,xs,A,b,ys,B,rfl,ha,hx,hb,hy,hl,k⟩:=h
  have hu:=hu_of hr
  have lx:=hx.length
  have ly:=hy.length
  refine ⟨_,pss_cons (ps_set (i:=2) scSteps.nd rfl (Or.inl rfl) pe_dnewT)
   (pss_cons (ps_for PassesOwn.never rfl (pi_enum rfl T.enumerate (pa_cons (pv 0) pa_nil)) (pg_tup (n:=2) rfl (pgs_cons (pg_name (i:=3) scSteps.nd rfl (Or.inl rfl)) (pgs_cons (pg_name (i:=4) scSteps.nd rfl (Or.inl rfl)) pgs_nil)))
    (pss_one (ps_for PassesOwn.never rfl (pi_enum rfl T.enumerate (pa_cons (pv 1) pa_nil)) (pg_tup (n:=2) rfl (pgs_cons (pg_name (i:=5) scSteps.nd rfl (Or.inl rfl)) (pgs_cons (pg_name (i:=6) scSteps.nd rfl (Or.inl rfl)) pgs_nil)))
     (pss_one (ps_dput hu (pv 2) (pe_tup (pa_cons (pe_op op_sub (pe_ix ix_tup (pv 4) pe_int (fun _ _=>rfl)) (pe_ix ix_tup (pv 6) pe_int (fun _ _=>rfl))) (pa_cons (pe_op op_sub (pe_ix ix_tup (pv 4) pe_int (fun _ _=>rfl)) (pe_ix ix_tup (pv 6) pe_int (fun _ _=>rfl))) pa_nil))) (pe_tup (pa_cons (pv 3) (pa_cons (pv 5) pa_nil))) rfl)))))
   (pss_one (ps_ret (pv 2)))),?_⟩
  intro r hr0
  have s1:=same_upd (o:=.dT []) (Same.refl H) hr0
  refine ⟨_,rfl,a,rfl,⟨_,s1.seq ha⟩,for_enum (K:=K) (a:=a) (xs:=xs)
   (fun i σ H2=>∃ v3 v4 v5 v6 kvs es,σ = [some (.ref a),some (.ref b),some (.ref r),v3,v4,v5,v6]∧Same H H2∧H2 r = some (.dT kvs)∧AreSteps H2 kvs es∧StepsOk A B es∧(∀ p ∈ A.take i,∀ q ∈ B,subP p q ∈ es.map (·.1))∧es.length≤i * B.length)
   ⟨none,none,none,none,[],[],rfl,s1,upd_same,.nil,⟨by simp,by simp⟩,by simp,by simp⟩ (fun i σ H2 _ ⟨_,_,_,_,_,_,_,s2,_⟩=>s2.seq ha) ?_ ?_⟩
  ·rintro i x TT σ H2 hi ⟨v3,v4,v5,v6,kvs,es,rfl,s2,h2,st,ok,cov,le⟩ nT
   obtain ⟨p,p1,p2⟩:=Pair.get hx hi
   have hil:=(List.getElem?_eq_some_iff.mp p1).1
   refine ⟨TT,_,rfl,SqT.of upd_same,rfl,_,_,rfl,_,_,rfl,rfl,?_⟩
   have s3:=same_upd (o:=.tup [.int (i:Nat),x]) (Same.refl H2) nT
   have s23:=s2.trans s3
   refine ⟨_,rfl,b,rfl,⟨_,s23.seq hb⟩,for_enum (K:=K) (a:=b) (xs:=ys)
    (fun j σ H4=>∃ v5 v6 kvs es,σ = [some (.ref a),some (.ref b),some (.ref r),some (.int (i:Nat)),some x,v5,v6]∧Same H H4∧H4 r = some (.dT kvs)∧AreSteps H4 kvs es∧StepsOk A B es∧(∀ p ∈ A.take i,∀ q ∈ B,subP p q ∈ es.map (·.1))∧(∀ q ∈ B.take j,subP p q ∈ es.map (·.1))∧es.length≤i * B.length+j)
    ⟨_,_,kvs,es,rfl,s23,s3 _ _ h2,AreSteps.keep st (Same.keep s3),ok,cov,by simp,by omega⟩ (fun j σ H4 _ ⟨_,_,_,_,_,s4,_⟩=>s4.seq hb) ?_ ?_⟩
   ·rintro j y UU σ H4 hj ⟨v5,v6,kvs4,es4,rfl,s4,h4,st4,ok4,cov4,cov5,le4⟩ nU
    obtain ⟨q,q1,q2⟩:=Pair.get hy hj
    have hjl:=(List.getElem?_eq_some_iff.mp q1).1
    refine ⟨UU,_,rfl,SqT.of upd_same,rfl,_,_,rfl,_,_,rfl,rfl,?_⟩
    have s5:=same_upd (o:=.tup [.int (j:Nat),y]) (Same.refl H4) nU
    have s45:=s4.trans s5
    refine ⟨_,rfl,_,rfl,(by show 2≤sizeLine; decide),fun t nt=>?_⟩
    have s6:=same_upd (o:=.tup [.int (i:Nat),.int (j:Nat)]) (Same.refl (upd H4 UU (.tup [.int (j:Nat),y]))) nt
    have s46:=s45.trans s6
    obtain ⟨ap,rfl,hap⟩:=p2.same s46
    obtain ⟨aq,rfl,haq⟩:=q2.same s46
    refine ⟨_,rfl,_,rfl,ap,_,_,_,rfl,rfl,SqT.of hap,atI_nat (j:=0) rfl,_,rfl,aq,_,_,_,rfl,rfl,SqT.of haq,atI_nat (j:=0) rfl,_,_,rfl,rfl,?_⟩
    refine ⟨_,rfl,ap,_,_,_,rfl,rfl,SqT.of hap,atI_nat (j:=1) rfl,_,rfl,aq,_,_,_,rfl,rfl,SqT.of haq,atI_nat (j:=1) rfl,_,_,rfl,rfl,(by show 2≤sizeLine; decide),fun d nd=>?_⟩
    have s7:=same_upd (o:=.tup [.int (p.1 - q.1),.int (p.2 - q.2)]) (Same.refl (upd (upd H4 UU (.tup [.int (j:Nat),.ref aq])) t (.tup [.int (i:Nat),.int (j:Nat)]))) nd
    have s57:=s5.trans (s6.trans s7)
    have hr7:=s57 _ _ h4
    have hd7:(upd (upd (upd H4 UU (.tup [.int (j:Nat),.ref aq])) t (.tup [.int (i:Nat),.int (j:Nat)])) d (.tup [.int (p.1 - q.1),.int (p.2 - q.2)])) d = some (.tup ((kpt (subP p q)).map kV)):=upd_same
    have ht7:IsPt (upd (upd (upd H4 UU (.tup [.int (j:Nat),.ref aq])) t (.tup [.int (i:Nat),.int (j:Nat)])) d (.tup [.int (p.1 - q.1),.int (p.2 - q.2)])) (.ref t) ((i:Nat),(j:Nat)):=⟨t,rfl,s7 _ _ upd_same⟩
    have st7:AreSteps _ kvs4 es4:=AreSteps.keep st4 (Same.keep s57)
    have s47:=s4.trans s57
    generalize (upd (upd (upd H4 UU (.tup [.int (j:Nat),.ref aq])) t (.tup [.int (i:Nat),.int (j:Nat)])) d (.tup [.int (p.1 - q.1),.int (p.2 - q.2)])) = H7 at hr7 hd7 ht7 st7 s47
    have lk:=st7.length
    have hm:i * B.length+j < A.length * B.length:=by
     have:i * B.length+B.length≤A.length * B.length:=by
      have:=Nat.mul_le_mul_right B.length (show i+1≤A.length by omega)
      rw [Nat.add_mul,Nat.one_mul] at this; exact this
     omega
    refine ⟨r,_,rfl,DPut.t (k:=kpt (subP p q)) hr7 hd7 (small1000 (by omega)),?_⟩
    refine ⟨_,_,_,putE es4 (subP p q) ((i:Nat),(j:Nat)),rfl,same_upd s47 hr0,upd_same,AreSteps.keep (steps_put ht7 st7 ok4.nd) (Keep.dT hr7 _),⟨putE_nd ok4.nd,fun e he=>?_⟩,fun p' hp' q' hq'=>putE_keys.mpr (.inr (cov4 p' hp' q' hq')),fun q' hq'=>?_,?_⟩
    ·rcases putE_mem he with z | z
     ·rw [z]; dsimp only
      refine ⟨by omega,by omega,by omega,by omega,?_⟩
      rw [ptAt_get p1,ptAt_get q1]
     ·exact ok4.ix e z
    ·rw [take_snoc q1] at hq'
     rcases List.mem_append.mp hq' with z | z
     ·exact putE_keys.mpr (.inr (cov5 q' z))
     ·rw [List.mem_singleton] at z; rw [z]; exact putE_keys.mpr (.inl rfl)
    ·have:=putE_len (d:=subP p q) (v:=(((i:Nat):Int),((j:Nat):Int))) (es:=es4)
     omega
   ·rintro σ H4 ⟨v5,v6,kvs4,es4,rfl,s4,h4,st4,ok4,cov4,cov5,le4⟩
    rw [List.take_of_length_le (by omega)] at cov5
    refine ⟨_,_,_,_,kvs4,es4,rfl,s4,h4,st4,ok4,fun p' hp' q' hq'=>?_,?_⟩
    ·rw [take_snoc p1] at hp'
     rcases List.mem_append.mp hp' with z | z
     ·exact cov4 p' z q' hq'
     ·rw [List.mem_singleton] at z; rw [z]; exact cov5 q' hq'
    ·rw [Nat.add_mul,Nat.one_mul]; omega
  ·rintro σ H2 ⟨v3,v4,v5,v6,kvs,es,rfl,s2,h2,st,ok,cov,le⟩
   rw [List.take_of_length_le (by omega)] at cov
   exact ⟨_,rfl,k r kvs es H2 hr0 s2 h2 st ok cov (by rw [← lx]; exact le)⟩
end
end Toy
set_option maxRecDepth 100000
namespace Toy
open PySem L2 Geo
section
variable {P:Program} {w:World} {K:PySem.W.Frag} {mg:Str→Option Value} {base:Heap}
def spBeside (K:PySem.W.Frag):Sp:=fun vs H Q _=>∃ a xs A B,vs = [.ref a]∧SqL K H a xs∧ArePts H xs A∧(∀ q ∈ A,Bd q)∧(∀ q ∈ B,Bd q)∧(A = []∨B = []) ∧
 ∀ t l H',Same H H'→IsTri H' (.ref t) l→LineOk A B l→Q (.ref t) H'
theorem scBeside:FnScope ["ones"] ["ones"] (defScope sBeside):=⟨rfl,rfl,rfl,by decide +kernel,rfl,by decide +kernel,by decide +kernel⟩
theorem ok_beside {f:Addr} {fd:FuncData} (F:Fun K "line_beside" "line_beside" sBeside f fd) (T:Txt mg):FnOk P w K mg base CX0 1 f fd ["ones"] (spBeside K):=by
 refine F.ok scBeside (fun vs H Q E h=>?_) (fun cdv A' outer s H vs Q E hr h=>?_)
 ·obtain ⟨a,xs,A,B,rfl,_⟩:=h; rfl
 ·obtain ⟨a,xs,A,B,rfl,ha,hx,bA,bB,hAB,k⟩:=h
  obtain ⟨t0,hf⟩:=T.far
  have lx:=hx.length
  refine ⟨_,pss_cons (ps_if (pt_cmpR op_eq (pe_callB call_len_seq rfl T.len PySem.boot_len (pa_cons (pv 0) pa_nil)) pe_int (nomark _)) (pss_one (ps_ret (pe_tup (pa_cons pe_int (pa_cons pe_int (pa_cons (pe_op op_sub (pe_un un_neg (pe_glob (v:=.int 1000) rfl hf ⟨t0,rfl⟩)) pe_int) pa_nil)))))) pss_nil)
   (pss_one (ps_ret (pe_tup (pa_cons pe_int (pa_cons pe_int (pa_cons (pe_op op_add (pe_glob (v:=.int 1000) rfl hf ⟨t0,rfl⟩) pe_int) pa_nil)))))),?_⟩
  refine ⟨_,rfl,a,_,rfl,.inl ha,rfl,_,rfl,?_⟩
  by_cases h0:A = []
  ·subst h0
   have:xs.length = 0:=by simpa using lx
   rw [show (decide (V.int (xs.length:Int) = V.int 0)) = true by rw [this]; rfl]
   refine iteT ⟨_,rfl,_,_,rfl,rfl,(by show 3≤sizeLine; decide),fun u hu=>?_⟩
   refine k u (1,0,-1001) _ (same_upd (Same.refl H) hu) ⟨u,rfl,upd_same⟩ ⟨fun q hq=>by simp at hq,fun q hq=>?_⟩
   have:=bB q hq
   unfold Bd at this; unfold wrt; dsimp only; omega
  ·have lA:0 < A.length:=List.length_pos_iff.mpr h0
   rw [decide_eq_false (show ¬ V.int (xs.length:Int) = V.int 0 from fun e=>by have:=V.int.inj e; omega)]
   refine iteF ⟨_,_,rfl,rfl,(by show 3≤sizeLine; decide),fun u hu=>?_⟩
   have hB:B = []:=hAB.resolve_left h0
   subst hB
   refine k u (1,0,1001) _ (same_upd (Same.refl H) hu) ⟨u,rfl,upd_same⟩ ⟨fun q hq=>?_,fun q hq=>by simp at hq⟩
   have:=bA q hq
   unfold Bd at this; unfold wrt; dsimp only; omega
abbrev n_sLBetween:List Str:=["ones","others","shutting","rising","low","high"]
def spLBetween (K:PySem.W.Frag):Sp:=fun vs H Q _=>∃ a xs A b ys B v l D,vs = [.ref a,.ref b,v]∧SqL K H a xs∧ArePts H xs A∧SqL K H b ys∧ArePts H ys B∧A ≠ []∧B ≠ []∧A.length≤200∧B.length≤200∧(∀ q ∈ A,Bd q)∧(∀ q ∈ B,Bd q)∧IsTri H v l ∧
 (∀ p ∈ A,∀ q ∈ B,subP p q ∈ D)∧Out D (0,0) l∧∀ t l' H',Same H H'→IsTri H' (.ref t) l'→LineOk A B l'→Q (.ref t) H'
theorem scLBetween:FnScope n_sLBetween ["ones","others","shutting"] (defScope sLBetween):=⟨rfl,rfl,rfl,by decide +kernel,rfl,by decide +kernel,by decide +kernel⟩
abbrev c_lbA:Scope:={ kind:=.function,names:=[(".0",.local),("one",.local),("worth",.globalImplicit),("rising",.free)],isGenerator:=false,isCoroutine:=false }
theorem cs_lbA {cdv:Value} {A:Around} {outer:List Env} {s:Shared} {H:Hp} {E:XK} {f:Addr}:CompScope (cxOf CX0 P w K mg base n_sLBetween "line_between" (defScope sLBetween) f cdv A outer s H E).nox c_lbA ["one","rising"] [none,some 3] where
 kind:=rfl
 nocell:=by decide +kernel
 names:=by decide +kernel
 frees:=by show ∀ z ∈ c_lbA.names,z.2 = .free→(defScope sLBetween).names.lookup z.1 = some .cell; decide +kernel
 nd:=by decide +kernel
 len:=rfl
 cap:=fun i j h=>match i,h with
  | 0,h=>by simp at h
  | 1,h=>by
   simp at h; subst h
   exact ⟨"rising",rfl,rfl,by decide +kernel,rfl,.inl rfl⟩
  | n+2,h=>by simp at h
theorem nd_lbA:(["one","rising"]:List Str).Nodup:=by decide +kernel
abbrev c_lbB:Scope:={ kind:=.function,names:=[(".0",.local),("other",.local),("worth",.globalImplicit),("rising",.free)],isGenerator:=false,isCoroutine:=false }
theorem cs_lbB {cdv:Value} {A:Around} {outer:List Env} {s:Shared} {H:Hp} {E:XK} {f:Addr}:CompScope (cxOf CX0 P w K mg base n_sLBetween "line_between" (defScope sLBetween) f cdv A outer s H E).nox c_lbB ["other","rising"] [none,some 3] where
 kind:=rfl
 nocell:=by decide +kernel
 names:=by decide +kernel
 frees:=by show ∀ z ∈ c_lbB.names,z.2 = .free→(defScope sLBetween).names.lookup z.1 = some .cell; decide +kernel
 nd:=by decide +kernel
 len:=rfl
 cap:=fun i j h=>match i,h with
  | 0,h=>by simp at h
  | 1,h=>by
   simp at h; subst h
   exact ⟨"rising",rfl,rfl,by decide +kernel,rfl,.inl rfl⟩
  | n+2,h=>by simp at h
theorem nd_lbB:(["other","rising"]:List Str).Nodup:=by decide +kernel
theorem ok_lbetween {f g:Addr} {fd gd:FuncData} (F:Fun K "line_between" "line_between" sLBetween f fd) (T:Txt mg)
  (WO:FnOk P w K mg base CX0 1 g gd ["line","point"] (spWorth K)) (b3:Binds K gd ["line","point"] []) (k3:PySem.W.keepIn K (.ref g) = true) (m3:mg "worth" = some (.ref g)):FnOk P w K mg base CX0 2 f fd ["ones","others","shutting"] (spLBetween K):=by
 refine F.ok scLBetween (fun vs H Q E h=>?_) (fun cdv A' outer s H vs Q E hr h=>?_)
 ·obtain ⟨a,xs,A,b,ys,B,v,l,D,rfl,_⟩:=h; rfl
 ·obtain ⟨a,xs,A,b,ys,B,v,l,D,rfl,ha,hx,hb,hy,nA,nB,lA,lB,bA,bB,⟨av,rfl,hav⟩,cov,out,k⟩:=h
  have lx:=hx.length
  have ly:=hy.length
  refine ⟨_,pss_cons (ps_set (i:=3) scLBetween.nd rfl (Or.inr rfl) (pe_tup (pa_cons (pe_ix ix_tup (pv 2) pe_int (fun _ _=>rfl)) (pa_cons (pe_ix ix_tup (pv 2) pe_int (fun _ _=>rfl)) (pa_cons pe_int pa_nil)))))
   (pss_cons (ps_set (i:=4) scLBetween.nd rfl (Or.inl rfl) (pe_callB (call_minL hr.hd) rfl T.min PyProof.Rows.boot_min (pa_cons (pe_comp cs_lbA rfl (pi_list (pv 0)) (fun _ _ _ _ _=>pg_name (i:=0) nd_lbA rfl (Or.inl rfl)) (fun _ _ _ _ _=>pif_nil)
     (fun _ _ _ _ _=>pe_call WO hr rfl m3 k3 b3 .nil pass0 (pa_cons (pv 1) (pa_cons (pv 0) pa_nil)))) pa_nil)))
   (pss_cons (ps_set (i:=5) scLBetween.nd rfl (Or.inl rfl) (pe_callB (call_maxL hr.hd) rfl T.max PyProof.Rows.boot_max (pa_cons (pe_comp cs_lbB rfl (pi_list (pv 1)) (fun _ _ _ _ _=>pg_name (i:=0) nd_lbB rfl (Or.inl rfl)) (fun _ _ _ _ _=>pif_nil)
     (fun _ _ _ _ _=>pe_call WO hr rfl m3 k3 b3 .nil pass0 (pa_cons (pv 1) (pa_cons (pv 0) pa_nil)))) pa_nil)))
   (pss_one (ps_ret (pe_tup (pa_cons (pe_op op_mul pe_int (pe_ix ix_tup (pv 2) pe_int (fun _ _=>rfl))) (pa_cons (pe_op op_mul pe_int (pe_ix ix_tup (pv 2) pe_int (fun _ _=>rfl))) (pa_cons (pe_op op_sub (pe_un un_neg (pv 4)) (pv 5)) pa_nil)))))))),?_⟩
  refine ⟨_,rfl,av,_,_,_,rfl,rfl,SqT.of hav,atI_nat (j:=0) rfl,_,rfl,av,_,_,_,rfl,rfl,SqT.of hav,atI_nat (j:=1) rfl,(by show 3≤sizeLine; decide),fun u nu=>?_⟩
  have s1:=same_upd (o:=.tup [.int l.1,.int l.2.1,.int 0]) (Same.refl H) nu
  have hu1:IsTri (upd H u (.tup [.int l.1,.int l.2.1,.int 0])) (.ref u) (l.1,l.2.1,0):=⟨u,rfl,upd_same⟩
  generalize (upd H u (.tup [.int l.1,.int l.2.1,.int 0])) = H1 at s1 hu1
  refine ⟨_,rfl,a,rfl,⟨_,s1.seq ha⟩,fun D1 hD1=>?_⟩
  refine comp_list (K:=K) (a:=a) (xs:=xs) (fun j σ' H'=>∃ v1,σ' = [v1,some (.ref u)]∧Same H1 H'∧H' D1 = some (.lst (((A.take j).map (wrt (l.1,l.2.1,0))).map V.int)))
   ⟨none,rfl,same_upd (Same.refl H1) hD1,upd_same⟩ (fun j σ' H' _ ⟨_,_,s4,_⟩=>s4.seq (s1.seq ha)) ?_ ?_
  ·rintro j x σ' H' hj ⟨v1,rfl,s4,h4⟩
   obtain ⟨p,p1,p2⟩:=Pair.get hx hj
   have hjl:=(List.getElem?_eq_some_iff.mp hj).1
   dsimp only [gName,tYes]
   refine iteT ⟨_,rfl,_,rfl,.ref u,x,(l.1,l.2.1,0),p,rfl,hu1.same s4,(p2.same (s1.trans s4)).k,(bA p (List.mem_of_getElem? p1)).w,_,h4,small1000 (by simp; omega),_,rfl,same_upd s4 hD1,?_⟩
   rw [upd_same,take_snoc p1]; simp
  ·rintro σ' H2 ⟨v1,rfl,s2,h2⟩
   rw [List.take_of_length_le (by omega)] at h2
   have s12:=s1.trans s2
   refine ⟨D1,_,rfl,SqL.of h2,by simp [nA],fun low lo1 lo2=>?_⟩
   refine ⟨_,rfl,b,rfl,⟨_,s12.seq hb⟩,fun D2 hD2=>?_⟩
   refine comp_list (K:=K) (a:=b) (xs:=ys) (fun j σ' H'=>∃ v1,σ' = [v1,some (.ref u)]∧Same H2 H'∧H' D2 = some (.lst (((B.take j).map (wrt (l.1,l.2.1,0))).map V.int)))
    ⟨none,rfl,same_upd (Same.refl H2) hD2,upd_same⟩ (fun j σ' H' _ ⟨_,_,s4,_⟩=>s4.seq (s12.seq hb)) ?_ ?_
   ·rintro j x σ' H' hj ⟨v1,rfl,s4,h4⟩
    obtain ⟨p,p1,p2⟩:=Pair.get hy hj
    have hjl:=(List.getElem?_eq_some_iff.mp hj).1
    dsimp only [gName,tYes]
    refine iteT ⟨_,rfl,_,rfl,.ref u,x,(l.1,l.2.1,0),p,rfl,hu1.same (s2.trans s4),(p2.same (s12.trans s4)).k,(bB p (List.mem_of_getElem? p1)).w,_,h4,small1000 (by simp; omega),_,rfl,same_upd s4 hD2,?_⟩
    rw [upd_same,take_snoc p1]; simp
   ·rintro σ' H3 ⟨v1,rfl,s3,h3⟩
    rw [List.take_of_length_le (by omega)] at h3
    have s13:=s12.trans s3
    refine ⟨D2,_,rfl,SqL.of h3,by simp [nB],fun high hi1 hi2=>?_⟩
    have hav3:=s13 _ _ hav
    refine ⟨_,rfl,av,_,_,_,rfl,rfl,SqT.of hav3,atI_nat (j:=0) rfl,_,_,rfl,rfl,.inl ⟨by decide,by decide⟩,?_⟩
    refine ⟨_,rfl,av,_,_,_,rfl,rfl,SqT.of hav3,atI_nat (j:=1) rfl,_,_,rfl,rfl,.inl ⟨by decide,by decide⟩,?_⟩
    refine ⟨_,rfl,_,rfl,_,rfl,_,_,rfl,rfl,(by show 3≤sizeLine; decide),fun t nt=>?_⟩
    have s4:=same_upd (o:=.tup [.int (2 * l.1),.int (2 * l.2.1),.int (-low - high)]) (Same.refl H3) nt
    refine k t (2 * l.1,2 * l.2.1,-low - high) _ (s13.trans s4) ⟨t,rfl,upd_same⟩ (line_between_ok cov out ?_ (fun p hp=>lo2 _ (List.mem_map.mpr ⟨p,hp,rfl⟩)) ?_ (fun q hq=>hi2 _ (List.mem_map.mpr ⟨q,hq,rfl⟩)))
    ·obtain ⟨p,hp,e⟩:=List.mem_map.mp lo1; exact ⟨p,hp,e.symm⟩
    ·obtain ⟨q,hq,e⟩:=List.mem_map.mp hi1; exact ⟨q,hq,e.symm⟩
def emb (acc:List Pt):List (Key×V):=(acc.map fun q=>(q.1,V.int q.2)).map fun (p:Int×V)=>((Sum.inl p.1:Key),p.2)
theorem emb_val (n:Int):∀ acc:List Pt,((valV (emb acc) (Sum.inl n:Key)).getD (V.int 0)) = V.int (lookP acc n)
 | []=>rfl
 | q :: r=>by
  unfold lookP
  by_cases h:q.1 = n
  ·rw [if_pos h]
   have:valV (emb (q :: r)) (Sum.inl n:Key) = some (V.int q.2):=valV_pos (show (Sum.inl q.1:Key) = Sum.inl n by rw [h])
   rw [this]; rfl
  ·rw [if_neg h,← emb_val n r]
   have:valV (emb (q :: r)) (Sum.inl n:Key) = valV (emb r) (Sum.inl n:Key):=valV_neg (fun z=>h (Sum.inl.inj z))
   rw [this]
theorem kput_cons {p:Key×V} {r:List (Key×V)} {k:Key} {v:V} (h:p.1 = k) (hn:k ∉ r.map (·.1)):putK (p :: r) k v = (p.1,v) :: r:=by
 have e:r.map (fun kv=>if kv.1 = k then (kv.1,v) else kv) = r:=by
  conv=>rhs; rw [← List.map_id r]
  refine List.map_congr_left fun q hq=>?_
  rw [if_neg (fun z=>hn (List.mem_map.mpr ⟨q,hq,z⟩))]; rfl
 unfold putK
 rw [if_pos (by simp [h]),List.map_cons,if_pos h,e]
theorem kput_skip {p:Key×V} {r:List (Key×V)} {k:Key} {v:V} (h:¬ p.1 = k):putK (p :: r) k v = p :: putK r k v:=by
 unfold putK
 rw [List.any_cons,show decide (p.1 = k) = false from decide_eq_false h,Bool.false_or]
 by_cases q:(r.any fun kv=>decide (kv.1 = k)) = true
 ·rw [if_pos q,if_pos q,List.map_cons,if_neg h]
 ·rw [if_neg q,if_neg q]; rfl
theorem emb_put (n s:Int):∀ acc:List Pt,(acc.map (·.1)).Nodup→putK (emb acc) (Sum.inl n:Key) (V.int (lookP acc n+s)) = emb (addP acc n s)
 | [],_=>rfl
 | q :: r,nd=>by
  rw [List.map_cons,List.nodup_cons] at nd
  unfold lookP addP
  by_cases h:q.1 = n
  ·rw [if_pos h,if_pos h]
   show putK (((Sum.inl q.1:Key),V.int q.2) :: emb r) (Sum.inl n) _ = ((Sum.inl q.1:Key),V.int (q.2+s)) :: emb r
   rw [kput_cons (by rw [h])]
   intro z
   apply nd.1
   rw [h]
   obtain ⟨x,hx,ex⟩:=List.mem_map.mp z
   unfold emb at hx
   rw [List.map_map] at hx
   obtain ⟨y,hy,ey⟩:=List.mem_map.mp hx
   rw [← ey] at ex
   exact List.mem_map.mpr ⟨y,hy,Sum.inl.inj ex⟩
  ·rw [if_neg h,if_neg h]
   show putK (((Sum.inl q.1:Key),V.int q.2) :: emb r) (Sum.inl n) _ = ((Sum.inl q.1:Key),V.int q.2) :: emb (addP r n s)
   rw [kput_skip (fun z=>h (Sum.inl.inj z)),emb_put n s r nd.2]
theorem Keep.dK {H:Hp} {r:Addr} {kvs:List (Key×V)} (h:H r = some (.dK kvs)) (o:HO):Keep H (upd H r o):=fun a ys e=>by rw [upd_ne (ne_of e h (by intro z; cases z))]; exact e
abbrev n_sAdded:List Str:=["shares","sums","number","share"]
def spAdded (K:PySem.W.Frag):Sp:=fun vs H Q _=>∃ a zs prs,vs = [.ref a]∧SqL K H a zs∧ArePts H zs prs∧prs.length≤200 ∧
 ∀ r ws out H',H r = none→Same H H'→H' r = some (.lst ws)→ArePts H' ws out→AddOk prs out→Q (.ref r) H'
theorem scAdded:FnScope n_sAdded ["shares"] (defScope sAdded):=⟨rfl,rfl,rfl,by decide +kernel,rfl,by decide +kernel,by decide +kernel⟩
theorem ok_added {f:Addr} {fd:FuncData} (F:Fun K "added_up" "added_up" sAdded f fd) (T:Txt mg):FnOk P w K mg base CX0 1 f fd ["shares"] (spAdded K):=by
 refine F.ok scAdded (fun vs H Q E h=>?_) (fun cdv A' outer s H vs Q E hr h=>?_)
 ·obtain ⟨a,zs,prs,rfl,_⟩:=h; rfl
 ·obtain ⟨a,zs,prs,rfl,hq,hp,hl,k⟩:=h
  have hu:=hu_of hr
  have lz:=hp.length
  refine ⟨_,pss_cons (ps_set (i:=1) scAdded.nd rfl (Or.inl rfl) pe_dnewK)
   (pss_cons (ps_for PassesOwn.never rfl (pi_list (pv 0)) (pg_tup (n:=2) rfl (pgs_cons (pg_name (i:=2) scAdded.nd rfl (Or.inl rfl)) (pgs_cons (pg_name (i:=3) scAdded.nd rfl (Or.inl rfl)) pgs_nil)))
    (pss_one (ps_dput hu (pv 1) (pv 2) (pe_op op_add (pe_dget2 hu (pv 1) (pv 2) pe_int ⟨rfl,rfl,rfl,rfl⟩) (pv 3)) rfl)))
   (pss_one (ps_ret (pe_listitems hr.hd rfl T.list (pv 1))))),?_⟩
  intro d hd0
  have s1:=same_upd (o:=.dK []) (Same.refl H) hd0
  refine ⟨_,rfl,a,rfl,⟨_,s1.seq hq⟩,for_list (K:=K) (a:=a) (xs:=zs)
   (fun i σ H2=>∃ v2 v3 out,σ = [some (.ref a),some (.ref d),v2,v3]∧Same H H2∧H2 d = some (.dK (emb out))∧AddOk (prs.take i) out)
   ⟨none,none,[],rfl,s1,upd_same,AddOk.nil⟩ (fun i σ H2 _ ⟨_,_,_,_,s2,_⟩=>s2.seq hq) ?_ ?_⟩
  ·rintro i y σ H2 hi ⟨v2,v3,out,rfl,s2,h2,ok⟩
   obtain ⟨p,p1,p2⟩:=Pair.get hp hi
   have hil:=(List.getElem?_eq_some_iff.mp p1).1
   obtain ⟨t,rfl,ht⟩:=p2.same s2
   refine ⟨t,_,rfl,SqT.of ht,rfl,_,_,rfl,_,_,rfl,rfl,?_⟩
   have lo:=ok.len
   rw [List.length_take] at lo
   refine ⟨_,rfl,d,rfl,.inl ⟨_,.inl h2⟩,_,rfl,_,DGet.k (k:=(Sum.inl p.1:Key)) h2,?_⟩
   rw [emb_val]
   refine ⟨_,rfl,_,_,rfl,rfl,_,rfl,_,rfl,d,_,rfl,DPut.k (k:=(Sum.inl p.1:Key)) h2 (small1000 (by unfold emb; simp; omega)),?_⟩
   refine ⟨_,_,addP out p.1 p.2,rfl,same_upd s2 hd0,?_,?_⟩
   ·rw [upd_same,emb_put _ _ _ ok.nd]
   ·rw [take_snoc p1]; exact ok.snoc p
  ·rintro σ H2 ⟨v2,v3,out,rfl,s2,h2,ok⟩
   rw [List.take_of_length_le (by omega)] at ok
   refine ⟨_,rfl,d,out.map (fun q:Pt=>((q.1:Int),V.int q.2)),rfl,h2,fun l ws H3 nl s3 h3 w3=>?_⟩
   refine k l ws out H3 (s2.free nl) (s2.trans s3) h3 ?_ ok
   have lw:=w3.length
   rw [List.length_map] at lw
   refine Paired.of_map lw fun i x q e1 e2=>?_
   obtain ⟨p,p1,b,rfl,hb⟩:=Pair.get w3 e1
   rw [List.getElem?_map,e2] at p1
   have:p = (q.1,V.int q.2):=by simpa using p1.symm
   subst this
   exact ⟨b,rfl,hb⟩
abbrev n_sWSpot:List Str:=["points","shares","x","y"]
def sumX (A prs:List Pt):Int:=(prs.map fun q=>q.2 * (ptAt A q.1).1).sum
def sumY (A prs:List Pt):Int:=(prs.map fun q=>q.2 * (ptAt A q.1).2).sum
def spotT (A prs:List Pt):Tri:=(sumX A prs,sumY A prs,(prs.map (·.2)).sum)
def spWSpot (K:PySem.W.Frag):Sp:=fun vs H Q _=>∃ a xs A b ys prs,vs = [.ref a,.ref b]∧SqL K H a xs∧ArePts H xs A∧(∀ q ∈ A,Bd q)∧SqL K H b ys∧ArePts H ys prs∧prs.length≤200∧(∀ q ∈ prs,0≤q.1∧q.1 < A.length∧0≤q.2)∧0 < (spotT A prs).2.2∧(spotT A prs).2.2≤64000000 ∧
 ∀ r H',H r = none→Same H H'→IsTri H' (.ref r) (lowM (spotT A prs))→Q (.ref r) H'
theorem scWSpot:FnScope n_sWSpot ["points","shares"] (defScope sWSpot):=⟨rfl,rfl,rfl,by decide +kernel,rfl,by decide +kernel,by decide +kernel⟩
abbrev c_wsx:Scope:={ kind:=.function,names:=[(".0",.local),("number",.local),("share",.local),("points",.free)],isGenerator:=false,isCoroutine:=false }
theorem cs_wsx {cdv:Value} {A:Around} {outer:List Env} {s:Shared} {H:Hp} {E:XK} {f:Addr}:CompScope (cxOf CX0 P w K mg base n_sWSpot "weighed_spot" (defScope sWSpot) f cdv A outer s H E).nox c_wsx ["number","share","points"] [none,none,some 0] where
 kind:=rfl
 nocell:=by decide +kernel
 names:=by decide +kernel
 frees:=by show ∀ z ∈ c_wsx.names,z.2 = .free→(defScope sWSpot).names.lookup z.1 = some .cell; decide +kernel
 nd:=by decide +kernel
 len:=rfl
 cap:=fun i j h=>match i,h with
  | 0,h=>by simp at h
  | 1,h=>by simp at h
  | 2,h=>by
   simp at h; subst h
   exact ⟨"points",rfl,rfl,by decide +kernel,rfl,.inl rfl⟩
  | n+3,h=>by simp at h
theorem nd_wsx:(["number","share","points"]:List Str).Nodup:=by decide +kernel
abbrev c_wsy:Scope:={ kind:=.function,names:=[(".0",.local),("number",.local),("share",.local),("points",.free)],isGenerator:=false,isCoroutine:=false }
theorem cs_wsy {cdv:Value} {A:Around} {outer:List Env} {s:Shared} {H:Hp} {E:XK} {f:Addr}:CompScope (cxOf CX0 P w K mg base n_sWSpot "weighed_spot" (defScope sWSpot) f cdv A outer s H E).nox c_wsy ["number","share","points"] [none,none,some 0] where
 kind:=rfl
 nocell:=by decide +kernel
 names:=by decide +kernel
 frees:=by show ∀ z ∈ c_wsy.names,z.2 = .free→(defScope sWSpot).names.lookup z.1 = some .cell; decide +kernel
 nd:=by decide +kernel
 len:=rfl
 cap:=fun i j h=>match i,h with
  | 0,h=>by simp at h
  | 1,h=>by simp at h
  | 2,h=>by
   simp at h; subst h
   exact ⟨"points",rfl,rfl,by decide +kernel,rfl,.inl rfl⟩
  | n+3,h=>by simp at h
theorem nd_wsy:(["number","share","points"]:List Str).Nodup:=by decide +kernel
abbrev c_wss:Scope:={ kind:=.function,names:=[(".0",.local),("number",.local),("share",.local)],isGenerator:=false,isCoroutine:=false }
theorem cs_wss {cdv:Value} {A:Around} {outer:List Env} {s:Shared} {H:Hp} {E:XK} {f:Addr}:CompScope (cxOf CX0 P w K mg base n_sWSpot "weighed_spot" (defScope sWSpot) f cdv A outer s H E).nox c_wss ["number","share"] [none,none] where
 kind:=rfl
 nocell:=by decide +kernel
 names:=by decide +kernel
 frees:=by show ∀ z ∈ c_wss.names,z.2 = .free→(defScope sWSpot).names.lookup z.1 = some .cell; decide +kernel
 nd:=by decide +kernel
 len:=rfl
 cap:=fun i j h=>match i,h with
  | 0,h=>by simp at h
  | 1,h=>by simp at h
  | n+2,h=>by simp at h
theorem nd_wss:(["number","share"]:List Str).Nodup:=by decide +kernel
theorem ok_wspot {f g:Addr} {fd gd:FuncData} (F:Fun K "weighed_spot" "weighed_spot" sWSpot f fd) (T:Txt mg) (G:FnOk P w K mg base CX0 2 g gd ["three"] spLowest) (bG:Binds K gd ["three"] []) (kG:PySem.W.keepIn K (.ref g) = true) (mG:mg "lowest" = some (.ref g)) :
  FnOk P w K mg base CX0 3 f fd ["points","shares"] (spWSpot K):=by
 refine F.ok scWSpot (fun vs H Q E h=>?_) (fun cdv A' outer s H vs Q E hr h=>?_)
 ·obtain ⟨a,xs,A,b,ys,prs,rfl,_⟩:=h; rfl
 ·obtain ⟨a,xs,A,b,ys,prs,rfl,ha,hx,bA,hb,hy,lp,ix,pos,lt,k⟩:=h
  have ly:=hy.length
  have lx:=hx.length
  refine ⟨_,pss_cons (ps_set (i:=2) scWSpot.nd rfl (Or.inl rfl) (pe_callB (call_sumL hr.hd) rfl T.sum PyProof.Rows.boot_sum (pa_cons (pe_comp cs_wsx rfl (pi_list (pv 1))
    (fun _ _ _ _ _=>pgt (K':=K) rfl (pg_tup (n:=2) rfl (pgs_cons (pg_name (i:=0) nd_wsx rfl (Or.inl rfl)) (pgs_cons (pg_name (i:=1) nd_wsx rfl (Or.inl rfl)) pgs_nil)))) (fun _ _ _ _ _=>pif_nil)
    (fun _ _ _ _ _=>pe_op op_mul (pe_ix (ixt (K':=K) rfl) (pe_ix (ixl (K':=K) rfl) (pv 2) (pv 0) (fun _ _=>rfl)) pe_int (fun _ _=>rfl)) (pv 1))) pa_nil)))
   (pss_cons (ps_set (i:=3) scWSpot.nd rfl (Or.inl rfl) (pe_callB (call_sumL hr.hd) rfl T.sum PyProof.Rows.boot_sum (pa_cons (pe_comp cs_wsy rfl (pi_list (pv 1))
    (fun _ _ _ _ _=>pgt (K':=K) rfl (pg_tup (n:=2) rfl (pgs_cons (pg_name (i:=0) nd_wsy rfl (Or.inl rfl)) (pgs_cons (pg_name (i:=1) nd_wsy rfl (Or.inl rfl)) pgs_nil)))) (fun _ _ _ _ _=>pif_nil)
    (fun _ _ _ _ _=>pe_op op_mul (pe_ix (ixt (K':=K) rfl) (pe_ix (ixl (K':=K) rfl) (pv 2) (pv 0) (fun _ _=>rfl)) pe_int (fun _ _=>rfl)) (pv 1))) pa_nil)))
   (pss_one (ps_ret (pe_call G hr rfl mG kG bG .nil pass0 (pa_cons (pe_tup (pa_cons (pv 2) (pa_cons (pv 3) (pa_cons (pe_callB (call_sumL hr.hd) rfl T.sum PyProof.Rows.boot_sum (pa_cons (pe_comp cs_wss rfl (pi_list (pv 1))
    (fun _ _ _ _ _=>pgt (K':=K) rfl (pg_tup (n:=2) rfl (pgs_cons (pg_name (i:=0) nd_wss rfl (Or.inl rfl)) (pgs_cons (pg_name (i:=1) nd_wss rfl (Or.inl rfl)) pgs_nil)))) (fun _ _ _ _ _=>pif_nil)
    (fun _ _ _ _ _=>pv 1)) pa_nil)) pa_nil)))) pa_nil))))),?_⟩
  have at':∀ {q:Pt} {H':Hp},q ∈ prs→Same H H'→∃ u:Addr,atI xs q.1 = some (.ref u)∧H' u = some (.tup [.int (ptAt A q.1).1,.int (ptAt A q.1).2])∧Bd (ptAt A q.1):=fun {q H'} hq s'=>by
   obtain ⟨i1,i2,_⟩:=ix q hq
   have hk:q.1.toNat < A.length:=by omega
   have g:A[q.1.toNat]? = some (ptAt A q.1):=by unfold ptAt; rw [List.getD_eq_getElem?_getD,List.getElem?_eq_getElem hk]; rfl
   obtain ⟨u,u1,au,rfl,u2⟩:=Pair.get' hx g
   refine ⟨au,?_,s' _ _ u2,bA _ (List.mem_of_getElem? g)⟩
   have:=atI_nat u1
   rw [show ((q.1.toNat:Nat):Int) = q.1 by omega] at this
   exact this
  refine ⟨_,rfl,b,rfl,⟨_,hb⟩,fun D1 hD1=>?_⟩
  refine comp_list (K:=K) (a:=b) (xs:=ys) (fun j σ' H'=>∃ v1 v2,σ' = [v1,v2,some (.ref a)]∧Same H H'∧H' D1 = some (.lst (((prs.take j).map fun q=>(ptAt A q.1).1 * q.2).map V.int)))
   ⟨none,none,rfl,same_upd (Same.refl H) hD1,upd_same⟩ (fun j σ' H' _ ⟨_,_,_,s4,_⟩=>s4.seq hb) ?_ ?_
  ·rintro j x σ' H' hj ⟨v1,v2,rfl,s4,h4⟩
   obtain ⟨q,q1,q2⟩:=Pair.get hy hj
   have hjl:=(List.getElem?_eq_some_iff.mp hj).1
   obtain ⟨t,rfl,ht⟩:=q2.same s4
   obtain ⟨u,u1,u2,bu⟩:=at' (List.mem_of_getElem? q1) s4
   refine ⟨t,_,rfl,SqT.of ht,rfl,_,_,rfl,_,_,rfl,rfl,?_⟩
   dsimp only [tYes]
   refine iteT ⟨_,rfl,_,rfl,a,_,_,_,rfl,rfl,s4.seq ha,u1,u,_,_,_,rfl,rfl,SqT.of u2,atI_nat (j:=0) rfl,_,rfl,_,_,rfl,rfl,mulL _ _ (by have:=bu.1; omega) (by have:=bu.2.1; omega),_,h4,small1000 (by simp; omega),_,_,rfl,same_upd s4 hD1,?_⟩
   rw [upd_same,take_snoc q1]; simp
  ·rintro σ' H1 ⟨v1,v2,rfl,s1,h1⟩
   rw [List.take_of_length_le (by omega)] at h1
   refine ⟨D1,_,rfl,SqL.of h1,?_⟩
   refine ⟨_,rfl,b,rfl,⟨_,s1.seq hb⟩,fun D2 hD2=>?_⟩
   refine comp_list (K:=K) (a:=b) (xs:=ys) (fun j σ' H'=>∃ v1 v2,σ' = [v1,v2,some (.ref a)]∧Same H1 H'∧H' D2 = some (.lst (((prs.take j).map fun q=>(ptAt A q.1).2 * q.2).map V.int)))
    ⟨none,none,rfl,same_upd (Same.refl H1) hD2,upd_same⟩ (fun j σ' H' _ ⟨_,_,_,s4,_⟩=>s4.seq (s1.seq hb)) ?_ ?_
   ·rintro j x σ' H' hj ⟨v1,v2,rfl,s4,h4⟩
    obtain ⟨q,q1,q2⟩:=Pair.get hy hj
    have hjl:=(List.getElem?_eq_some_iff.mp hj).1
    obtain ⟨t,rfl,ht⟩:=q2.same (s1.trans s4)
    obtain ⟨u,u1,u2,bu⟩:=at' (List.mem_of_getElem? q1) (s1.trans s4)
    refine ⟨t,_,rfl,SqT.of ht,rfl,_,_,rfl,_,_,rfl,rfl,?_⟩
    dsimp only [tYes]
    refine iteT ⟨_,rfl,_,rfl,a,_,_,_,rfl,rfl,(s1.trans s4).seq ha,u1,u,_,_,_,rfl,rfl,SqT.of u2,atI_nat (j:=1) rfl,_,rfl,_,_,rfl,rfl,mulL _ _ (by have:=bu.2.2.1; omega) (by have:=bu.2.2.2; omega),_,h4,small1000 (by simp; omega),_,_,rfl,same_upd s4 hD2,?_⟩
    rw [upd_same,take_snoc q1]; simp
   ·rintro σ' H2 ⟨v1,v2,rfl,s2,h2⟩
    rw [List.take_of_length_le (by omega)] at h2
    have s12:=s1.trans s2
    refine ⟨D2,_,rfl,SqL.of h2,?_⟩
    refine ⟨_,rfl,_,rfl,_,rfl,b,rfl,⟨_,s12.seq hb⟩,fun D3 hD3=>?_⟩
    refine comp_list (K:=K) (a:=b) (xs:=ys) (fun j σ' H'=>∃ v1 v2,σ' = [v1,v2]∧Same H2 H'∧H' D3 = some (.lst (((prs.take j).map (·.2)).map V.int)))
     ⟨none,none,rfl,same_upd (Same.refl H2) hD3,upd_same⟩ (fun j σ' H' _ ⟨_,_,_,s4,_⟩=>s4.seq (s12.seq hb)) ?_ ?_
    ·rintro j x σ' H' hj ⟨v1,v2,rfl,s4,h4⟩
     obtain ⟨q,q1,q2⟩:=Pair.get hy hj
     have hjl:=(List.getElem?_eq_some_iff.mp hj).1
     obtain ⟨t,rfl,ht⟩:=q2.same (s12.trans s4)
     refine ⟨t,_,rfl,SqT.of ht,rfl,_,_,rfl,_,_,rfl,rfl,?_⟩
     dsimp only [tYes]
     refine iteT ⟨_,rfl,_,h4,small1000 (by simp; omega),_,_,rfl,same_upd s4 hD3,?_⟩
     rw [upd_same,take_snoc q1]; simp
    ·rintro σ' H3 ⟨v1,v2,rfl,s3,h3⟩
     rw [List.take_of_length_le (by omega)] at h3
     refine ⟨D3,_,rfl,SqL.of h3,(by show 3≤sizeLine; decide),fun u nu=>?_⟩
     have sx:(prs.map fun q=>(ptAt A q.1).1 * q.2).sum = sumX A prs:=by unfold sumX; congr 1; exact List.map_congr_left fun q _=>Int.mul_comm _ _
     have sy:(prs.map fun q=>(ptAt A q.1).2 * q.2).sum = sumY A prs:=by unfold sumY; congr 1; exact List.map_congr_left fun q _=>Int.mul_comm _ _
     have hu3:IsTri (upd H3 u (.tup [.int (prs.map fun q=>(ptAt A q.1).1 * q.2).sum,.int (prs.map fun q=>(ptAt A q.1).2 * q.2).sum,.int (prs.map (·.2)).sum])) (.ref u) (spotT A prs):=⟨u,rfl,by rw [upd_same,sx,sy]; rfl⟩
     have s4:=same_upd (o:=.tup [.int (prs.map fun q=>(ptAt A q.1).1 * q.2).sum,.int (prs.map fun q=>(ptAt A q.1).2 * q.2).sum,.int (prs.map (·.2)).sum]) (Same.refl H3) nu
     have gp:0 < gcd3 (spotT A prs):=gcd_pos pos
     have gl:gcd3 (spotT A prs) < 1073741824:=by
      have h1:=Int.le_of_dvd pos (gcd3_dvd (spotT A prs)).2.2
      omega
     have s14:=s12.trans (s3.trans s4)
     refine ⟨.ref u,spotT A prs,rfl,hu3,gp,Nat.lt_trans gl (by decide),fun r nr=>?_⟩
     exact k r _ (s14.free nr) (s14.trans (same_upd (Same.refl _) nr)) ⟨r,rfl,upd_same⟩
end
end Toy
set_option maxRecDepth 100000
namespace Toy
open PySem L2 Geo
def SpB (t:Tri):Prop:=-4611686018427387904≤t.1∧t.1≤4611686018427387904∧-4611686018427387904≤t.2.1∧t.2.1≤4611686018427387904∧-4611686018427387904≤t.2.2∧t.2.2≤64000000
theorem sum_bound {f:Pt→Int} {C:Int} (hC:0≤C):∀ {prs:List Pt},(∀ q ∈ prs,0≤q.2∧-C≤f q∧f q≤C)→(prs.map fun q=>q.2 * f q).sum≤C * (prs.map (·.2)).sum∧-(C * (prs.map (·.2)).sum)≤(prs.map fun q=>q.2 * f q).sum
 | [],_=>by simp
 | q :: r,h=>by
  obtain ⟨h1,h2,h3⟩:=h q (by simp)
  obtain ⟨i1,i2⟩:=sum_bound hC (prs:=r) fun p hp=>h p (by simp [hp])
  have a1:0≤q.2 * (C - f q):=Int.mul_nonneg h1 (by omega)
  have a2:0≤q.2 * (C+f q):=Int.mul_nonneg h1 (by omega)
  simp only [List.map_cons,List.sum_cons]
  constructor <;> grind
theorem spot_b {A prs:List Pt} (bA:∀ q ∈ A,Bd q) (ix:∀ q ∈ prs,0≤q.1∧q.1 < A.length∧0≤q.2) (pos:0 < (spotT A prs).2.2) (lt:(spotT A prs).2.2≤64000000):SpB (lowM (spotT A prs)):=by
 have bp:∀ q ∈ prs,Bd (ptAt A q.1):=fun q hq=>by
  obtain ⟨i1,i2,_⟩:=ix q hq
  have hk:q.1.toNat < A.length:=by omega
  refine bA _ ?_
  unfold ptAt; rw [List.getD_eq_getElem?_getD,List.getElem?_eq_getElem hk]; exact List.getElem_mem hk
 have hx:=sum_bound (f:=fun q=>(ptAt A q.1).1) (C:=1000) (by decide) (prs:=prs) fun q hq=>⟨(ix q hq).2.2,(bp q hq).1,(bp q hq).2.1⟩
 have hy:=sum_bound (f:=fun q=>(ptAt A q.1).2) (C:=1000) (by decide) (prs:=prs) fun q hq=>⟨(ix q hq).2.2,(bp q hq).2.2.1,(bp q hq).2.2.2⟩
 have hg:(0:Int) < (gcd3 (spotT A prs):Nat):=by have:=gcd_pos (a:=((Int.gcd (spotT A prs).1 (spotT A prs).2.1:Nat):Int)) pos; unfold gcd3; omega
 have b1:=abs_div_le (s:=(spotT A prs).1) hg
 have b2:=abs_div_le (s:=(spotT A prs).2.1) hg
 have b3:=abs_div_le (s:=(spotT A prs).2.2) hg
 have e1:(spotT A prs).1 = (prs.map fun q=>q.2 * (ptAt A q.1).1).sum:=rfl
 have e2:(spotT A prs).2.1 = (prs.map fun q=>q.2 * (ptAt A q.1).2).sum:=rfl
 have e3:(spotT A prs).2.2 = (prs.map (·.2)).sum:=rfl
 have f1:(lowM (spotT A prs)).1 = (spotT A prs).1 / (gcd3 (spotT A prs):Nat):=rfl
 have f2:(lowM (spotT A prs)).2.1 = (spotT A prs).2.1 / (gcd3 (spotT A prs):Nat):=rfl
 have f3:(lowM (spotT A prs)).2.2 = (spotT A prs).2.2 / (gcd3 (spotT A prs):Nat):=rfl
 unfold SpB
 rw [f1,f2,f3]
 omega
theorem ptAt_mem {A:List Pt} {n:Int} (h0:0≤n) (h1:n < A.length):ptAt A n ∈ A:=by
 have hk:n.toNat < A.length:=by omega
 unfold ptAt; rw [List.getD_eq_getElem?_getD,List.getElem?_eq_getElem hk]; exact List.getElem_mem hk
def IsShN (H:Hp) (v:V) (e:ShN):Prop:=∃ a c,v = .ref a∧H a = some (.tup [c,.int e.2])∧IsPt H c e.1.2
theorem IsShN.keep {H H':Hp} {v:V} {e:ShN} (h:IsShN H v e) (k:Keep H H'):IsShN H' v e:=by
 obtain ⟨a,c,h1,h2,h3⟩:=h
 exact ⟨a,c,h1,k _ _ h2,h3.keep k⟩
abbrev AreShN (H:Hp):List V→List ShN→Prop:=Paired (IsShN H)
section
variable {P:Program} {w:World} {K:PySem.W.Frag} {mg:Str→Option Value} {base:Heap}
def NoStep (K:PySem.W.Frag) (mg:Str→Option Value):Prop:=∃ (a:Addr) (o:Obj) (its:Array Value) (n:Nat),mg "NO_STEP" = some (.ref a)∧K.lookup a = some o∧o.cls = .type "tuple"∧o.data = .seq its n∧its.size≤sizeLine∧Vals [.int 0,.int 0] its.toList
abbrev n_sLS:List Str:=["ones","others","steps","ends","shutting","shares","one_shares","other_shares"]
def spLS (K:PySem.W.Frag):Sp:=fun vs H Q _=>∃ a xs A b ys B,vs = [.ref a,.ref b]∧SqL K H a xs∧ArePts H xs A∧SqL K H b ys∧ArePts H ys B∧(∀ q ∈ A,Bd q)∧(∀ q ∈ B,Bd q)∧A.length * B.length≤144∧A.length≤12∧B.length≤12 ∧
 (∀ r t l H',H r = none→Same H H'→H' r = some (.tup [.str "line",.ref t])→IsTri H' (.ref t) l→LineOk A B l→Q (.ref r) H') ∧
 (∀ r t w1 w2 l1 l2 tr1 tr2 sp H',H r = none→H w1 = none→H w2 = none→w1 ≠ w2→Same H H'→H' r = some (.tup [.str "spot",.ref t,.ref w1,.ref w2])→IsTri H' (.ref t) sp→H' w1 = some (.lst l1)→AreTri H' l1 tr1→H' w2 = some (.lst l2)→AreTri H' l2 tr2 →
  SpOk sp→SpB sp→WOk A tr1 sp→WOk B tr2 sp→InHullS A sp→InHullS B sp→Q (.ref r) H')
theorem scLS:FnScope n_sLS ["ones","others"] (defScope sLS):=⟨rfl,rfl,rfl,by decide +kernel,rfl,by decide +kernel,by decide +kernel⟩
abbrev c_lsS:Scope:={ kind:=.function,names:=[(".0",.local),("end",.local),("share",.local),("steps",.free)],isGenerator:=false,isCoroutine:=false }
theorem cs_lsS {cdv:Value} {A:Around} {outer:List Env} {s:Shared} {H:Hp} {E:XK} {f:Addr}:CompScope (cxOf CX0 P w K mg base n_sLS "line_or_spot" (defScope sLS) f cdv A outer s H E).nox c_lsS ["end","share","steps"] [none,none,some 2] where
 kind:=rfl
 nocell:=by decide +kernel
 names:=by decide +kernel
 frees:=by show ∀ z ∈ c_lsS.names,z.2 = .free→(defScope sLS).names.lookup z.1 = some .cell; decide +kernel
 nd:=by decide +kernel
 len:=rfl
 cap:=fun i j h=>match i,h with
  | 0,h=>by simp at h
  | 1,h=>by simp at h
  | 2,h=>by
   simp at h; subst h
   exact ⟨"steps",rfl,rfl,by decide +kernel,rfl,.inl rfl⟩
  | n+3,h=>by simp at h
theorem nd_lsS:(["end","share","steps"]:List Str).Nodup:=by decide +kernel
abbrev c_lsA:Scope:={ kind:=.function,names:=[(".0",.local),("numbers",.local),("share",.local)],isGenerator:=false,isCoroutine:=false }
theorem cs_lsA {cdv:Value} {A:Around} {outer:List Env} {s:Shared} {H:Hp} {E:XK} {f:Addr}:CompScope (cxOf CX0 P w K mg base n_sLS "line_or_spot" (defScope sLS) f cdv A outer s H E).nox c_lsA ["numbers","share"] [none,none] where
 kind:=rfl
 nocell:=by decide +kernel
 names:=by decide +kernel
 frees:=by show ∀ z ∈ c_lsA.names,z.2 = .free→(defScope sLS).names.lookup z.1 = some .cell; decide +kernel
 nd:=by decide +kernel
 len:=rfl
 cap:=fun i j h=>match i,h with
  | 0,h=>by simp at h
  | 1,h=>by simp at h
  | n+2,h=>by simp at h
theorem nd_lsA:(["numbers","share"]:List Str).Nodup:=by decide +kernel
abbrev c_lsB:Scope:={ kind:=.function,names:=[(".0",.local),("numbers",.local),("share",.local)],isGenerator:=false,isCoroutine:=false }
theorem cs_lsB {cdv:Value} {A:Around} {outer:List Env} {s:Shared} {H:Hp} {E:XK} {f:Addr}:CompScope (cxOf CX0 P w K mg base n_sLS "line_or_spot" (defScope sLS) f cdv A outer s H E).nox c_lsB ["numbers","share"] [none,none] where
 kind:=rfl
 nocell:=by decide +kernel
 names:=by decide +kernel
 frees:=by show ∀ z ∈ c_lsB.names,z.2 = .free→(defScope sLS).names.lookup z.1 = some .cell; decide +kernel
 nd:=by decide +kernel
 len:=rfl
 cap:=fun i j h=>match i,h with
  | 0,h=>by simp at h
  | 1,h=>by simp at h
  | n+2,h=>by simp at h
theorem nd_lsB:(["numbers","share"]:List Str).Nodup:=by decide +kernel
theorem ok_ls {f g1 g2 g3 g4 g5 g6 g7 g8 g9:Addr} {fd d1 d2 d3 d4 d5 d6 d7 d8 d9:FuncData} (F:Fun K "line_or_spot" "line_or_spot" sLS f fd) (T:Txt mg) (hN:NoStep K mg)
  (BE:FnOk P w K mg base CX0 1 g1 d1 ["ones"] (spBeside K)) (b1:Binds K d1 ["ones"] []) (k1:PySem.W.keepIn K (.ref g1) = true) (m1:mg "line_beside" = some (.ref g1))
  (ST:FnOk P w K mg base CX0 1 g2 d2 ["ones","others"] (spSteps K)) (b2:Binds K d2 ["ones","others"] []) (k2:PySem.W.keepIn K (.ref g2) = true) (m2:mg "steps_between" = some (.ref g2))
  (RN:FnOk P w K mg base CX0 3 g3 d3 ["points"] (spRnd K)) (b3:Binds K d3 ["points"] []) (k3:PySem.W.keepIn K (.ref g3) = true) (m3:mg "corners_round" = some (.ref g3))
  (SH:FnOk P w K mg base CX0 2 g4 d4 ["ends","point"] (spShut K)) (b4:Binds K d4 ["ends","point"] []) (k4:PySem.W.keepIn K (.ref g4) = true) (m4:mg "shutting_line" = some (.ref g4))
  (LB:FnOk P w K mg base CX0 2 g5 d5 ["ones","others","shutting"] (spLBetween K)) (b5:Binds K d5 ["ones","others","shutting"] []) (k5:PySem.W.keepIn K (.ref g5) = true) (m5:mg "line_between" = some (.ref g5))
  (NW:FnOk P w K mg base CX0 3 g6 d6 ["ends","point"] (spShares K)) (b6:Binds K d6 ["ends","point"] []) (k6:PySem.W.keepIn K (.ref g6) = true) (m6:mg "shares_within" = some (.ref g6))
  (AD:FnOk P w K mg base CX0 1 g7 d7 ["shares"] (spAdded K)) (b7:Binds K d7 ["shares"] []) (k7:PySem.W.keepIn K (.ref g7) = true) (m7:mg "added_up" = some (.ref g7))
  (WS:FnOk P w K mg base CX0 3 g8 d8 ["points","shares"] (spWSpot K)) (b8:Binds K d8 ["points","shares"] []) (k8:PySem.W.keepIn K (.ref g8) = true) (m8:mg "weighed_spot" = some (.ref g8))
  (WG:FnOk P w K mg base CX0 2 g9 d9 ["shares"] (spWeigh K)) (b9:Binds K d9 ["shares"] []) (k9:PySem.W.keepIn K (.ref g9) = true) (m9:mg "weighing" = some (.ref g9)) :
  FnOk P w K mg base CX0 4 f fd ["ones","others"] (spLS K):=by
 refine F.ok scLS (fun vs H Q E h=>?_) (fun cdv A' outer s H vs Q E hr h=>?_)
 ·obtain ⟨a,xs,A,b,ys,B,rfl,_⟩:=h; rfl
 ·obtain ⟨a,xs,A,b,ys,B,rfl,ha,hx,hb,hy,bA,bB,lAB,lA,lB,kL,kS⟩:=h
  have hu:=hu_of hr
  have lx:=hx.length
  have ly:=hy.length
  have hr1:Room 1 _:=hr.mono (by decide)
  have hr2:Room 2 _:=hr.mono (by decide)
  obtain ⟨aN,oN,iN,nN,mN,q1,q2,q3,q4,q5⟩:=hN
  have z0:∀ H':Hp,IsPtK K H' (.ref aN) (0,0):=fun H'=>⟨aN,rfl,.inr ⟨oN,iN,nN,q1,q2,q3,q4,q5⟩⟩
  refine ⟨_,pss_cons (ps_if (PW.pt (pw_or (pt_cmpR op_eq (pe_callB call_len_seq rfl T.len PySem.boot_len (pa_cons (pv 0) pa_nil)) pe_int (nomark _)) (pw_or1 (pt_cmpR op_eq (pe_callB call_len_seq rfl T.len PySem.boot_len (pa_cons (pv 1) pa_nil)) pe_int (nomark _)))))
    (pss_one (ps_ret (pe_tup (pa_cons pe_str (pa_cons (pe_call BE hr1 rfl m1 k1 b1 .nil pass0 (pa_cons (pv 0) pa_nil)) pa_nil))))) pss_nil)
   (pss_cons (ps_set (i:=2) scLS.nd rfl (Or.inr rfl) (pe_call ST hr1 rfl m2 k2 b2 .nil pass0 (pa_cons (pv 0) (pa_cons (pv 1) pa_nil))))
   (pss_cons (ps_set (i:=3) scLS.nd rfl (Or.inl rfl) (pe_call RN hr rfl m3 k3 b3 .nil pass0 (pa_cons (pe_callTy (call_list_dT hr.hd) rfl T.list PyProof.Rows.boot_list (pa_cons (pv 2) pa_nil)) pa_nil)))
   (pss_cons (ps_set (i:=4) scLS.nd rfl (Or.inl rfl) (pe_call SH hr2 rfl m4 k4 b4 .nil pass0 (pa_cons (pv 3) (pa_cons (pe_glob (v:=.ref aN) rfl mN rfl) pa_nil))))
   (pss_cons (ps_if (pt_cmp (pc_notN (pv 4))) (pss_one (ps_ret (pe_tup (pa_cons pe_str (pa_cons (pe_call LB hr2 rfl m5 k5 b5 .nil pass0 (pa_cons (pv 0) (pa_cons (pv 1) (pa_cons (pv 4) pa_nil)))) pa_nil))))) pss_nil)
   (pss_cons (ps_setC (i:=5) scLS.nd rfl rfl cs_lsS rfl (pi_list (pe_call NW hr rfl m6 k6 b6 .nil pass0 (pa_cons (pv 3) (pa_cons (pe_glob (v:=.ref aN) rfl mN rfl) pa_nil))))
    (fun _ _ _ _ _=>pgt (K':=K) rfl (pg_tup (n:=2) rfl (pgs_cons (pg_name (i:=0) nd_lsS rfl (Or.inl rfl)) (pgs_cons (pg_name (i:=1) nd_lsS rfl (Or.inl rfl)) pgs_nil)))) (fun _ _ _ _ _=>pif_nil)
    (fun _ _ _ _ _=>pe_tup (pa_cons (pe_dget hu (pv 2) (pv 0) (fun _ _=>rfl)) (pa_cons (pv 1) pa_nil))) rfl)
   (pss_cons (ps_set (i:=6) scLS.nd rfl (Or.inl rfl) (pe_call AD hr1 rfl m7 k7 b7 .nil pass0 (pa_cons (pe_comp cs_lsA rfl (pi_list (pv 5))
    (fun _ _ _ _ _=>pgt (K':=K) rfl (pg_tup (n:=2) rfl (pgs_cons (pg_name (i:=0) nd_lsA rfl (Or.inl rfl)) (pgs_cons (pg_name (i:=1) nd_lsA rfl (Or.inl rfl)) pgs_nil)))) (fun _ _ _ _ _=>pif_nil)
    (fun _ _ _ _ _=>pe_tup (pa_cons (pe_ix (ixt (K':=K) rfl) (pv 0) pe_int (fun _ _=>rfl)) (pa_cons (pv 1) pa_nil)))) pa_nil)))
   (pss_cons (ps_set (i:=7) scLS.nd rfl (Or.inl rfl) (pe_call AD hr1 rfl m7 k7 b7 .nil pass0 (pa_cons (pe_comp cs_lsB rfl (pi_list (pv 5))
    (fun _ _ _ _ _=>pgt (K':=K) rfl (pg_tup (n:=2) rfl (pgs_cons (pg_name (i:=0) nd_lsB rfl (Or.inl rfl)) (pgs_cons (pg_name (i:=1) nd_lsB rfl (Or.inl rfl)) pgs_nil)))) (fun _ _ _ _ _=>pif_nil)
    (fun _ _ _ _ _=>pe_tup (pa_cons (pe_ix (ixt (K':=K) rfl) (pv 0) pe_int (fun _ _=>rfl)) (pa_cons (pv 1) pa_nil)))) pa_nil)))
   (pss_one (ps_ret (pe_tup (pa_cons pe_str (pa_cons (pe_call WS hr rfl m8 k8 b8 .nil pass0 (pa_cons (pv 0) (pa_cons (pv 6) pa_nil))) (pa_cons (pe_call WG hr2 rfl m9 k9 b9 .nil pass0 (pa_cons (pv 6) pa_nil)) (pa_cons (pe_call WG hr2 rfl m9 k9 b9 .nil pass0 (pa_cons (pv 7) pa_nil)) pa_nil)))))))))))))),?_⟩
  have hp2:∀ {p q:Pt},Bd p→Bd q→Bd2 (subP p q):=fun {p q} h1 h2=>by unfold Bd at h1 h2; unfold Bd2 subP; dsimp only; omega
  refine ⟨_,rfl,a,_,rfl,.inl ha,rfl,_,rfl,?_⟩
  by_cases hA0:A = []
  ·have l0:xs.length = 0:=by rw [lx,hA0]; rfl
   rw [show (decide (V.int (xs.length:Int) = V.int 0)) = true by rw [l0]; rfl]
   refine iteT ?_
   refine ⟨_,rfl,a,xs,A,B,rfl,ha,hx,bA,bB,.inl hA0,fun t l H1 s1 it lo=>?_⟩
   refine ⟨(by show 2≤sizeLine; decide),fun r nr=>?_⟩
   have s2:=same_upd (o:=.tup [.str "line",.ref t]) (Same.refl H1) nr
   exact kL r t l _ (s1.free nr) (s1.trans s2) upd_same (it.same s2) lo
  have lA0:0 < A.length:=List.length_pos_iff.mpr hA0
  rw [decide_eq_false (show ¬ V.int (xs.length:Int) = V.int 0 from fun e=>by have:=V.int.inj e; omega)]
  refine iteF ?_
  refine ⟨_,rfl,b,_,rfl,.inl hb,rfl,_,rfl,?_⟩
  by_cases hB0:B = []
  ·have l0:ys.length = 0:=by rw [ly,hB0]; rfl
   rw [show (decide (V.int (ys.length:Int) = V.int 0)) = true by rw [l0]; rfl]
   refine iteT ?_
   refine ⟨_,rfl,a,xs,A,B,rfl,ha,hx,bA,bB,.inr hB0,fun t l H1 s1 it lo=>?_⟩
   refine ⟨(by show 2≤sizeLine; decide),fun r nr=>?_⟩
   have s2:=same_upd (o:=.tup [.str "line",.ref t]) (Same.refl H1) nr
   exact kL r t l _ (s1.free nr) (s1.trans s2) upd_same (it.same s2) lo
  have lB0:0 < B.length:=List.length_pos_iff.mpr hB0
  rw [decide_eq_false (show ¬ V.int (ys.length:Int) = V.int 0 from fun e=>by have:=V.int.inj e; omega)]
  refine iteF ?_
  refine ⟨_,rfl,_,rfl,a,xs,A,b,ys,B,rfl,ha,hx,hb,hy,by omega,fun d kvs es H1 n1 s1 h1 st ok cov le=>?_⟩
  refine ⟨_,rfl,d,kvs,rfl,h1,fun l zs nl pz=>?_⟩
  have s1l:=same_upd (o:=.lst zs) (Same.refl H1) nl
  have pzs:ArePts (upd H1 l (.lst zs)) zs (es.map (·.1)):=by
   have e1:=pz.length
   have e2:=st.length
   refine Paired.of_map (by rw [List.length_map]; omega) fun i z q g1 g2=>?_
   obtain ⟨kv,k1,u,rfl,hu1⟩:=Pair.get pz g1
   obtain ⟨e,e3,e4⟩:=Pair.get st k1
   rw [List.getElem?_map,e3] at g2
   obtain rfl:e.1 = q:=by simpa using g2
   rw [e4.1] at hu1
   exact ⟨u,rfl,s1l _ _ hu1⟩
  have bE:∀ p ∈ es.map (·.1),Bd2 p:=fun p hp=>by
   obtain ⟨e,he,rfl⟩:=List.mem_map.mp hp
   obtain ⟨i1,i2,i3,i4,i5⟩:=ok.ix e he
   rw [i5]
   exact hp2 (bA _ (ptAt_mem i1 i2)) (bB _ (ptAt_mem i3 i4))
  refine ⟨l,zs,es.map (·.1),rfl,SqL.of upd_same,pzs,by rw [List.length_map]; omega,bE,fun r2 z2 H2 n2 s2 h2 p2=>?_⟩
  have s12:=s1.trans (s1l.trans s2)
  have lc:(cornersM (es.map (·.1))).length≤300:=by
   have h:=uniqP_le (es.map (·.1))
   have e1:=sideOf_len (uniqP (es.map (·.1)))
   have e2:=sideOf_len (uniqP (es.map (·.1))).reverse
   rw [List.length_reverse] at e2
   rw [List.length_map] at h
   unfold cornersM hullR
   split
   ·omega
   ·rw [List.length_append,List.length_dropLast,List.length_dropLast]; omega
  have hd2:=s2 _ _ (s1l _ _ h1)
  have st2:AreSteps H2 kvs es:=AreSteps.keep st (Same.keep (s1l.trans s2))
  refine ⟨_,rfl,r2,z2,cornersM (es.map (·.1)),.ref aN,(0,0),rfl,SqL.of h2,p2,lc,fun q hq=>bE q (cornersM_sub bE q hq),z0 H2,(by unfold Bd2; decide),fun t l3 H3 s3 ht ho=>?_,fun H3 s3 no=>?_⟩
  ·refine ⟨_,rfl,true,(by show V.bl (!decide (V.ref t = V.non)) = V.bl true; rw [decide_eq_false (by intro e; cases e)]; rfl),iteT ?_⟩
   have s13:=s12.trans s3
   refine ⟨_,rfl,_,rfl,_,rfl,a,xs,A,b,ys,B,.ref t,l3,es.map (·.1),rfl,s13.seq ha,hx.same s13,s13.seq hb,hy.same s13,hA0,hB0,by omega,by omega,bA,bB,ht,cov,ho.corners bE,fun t4 l4 H4 s4 it4 lo=>?_⟩
   refine ⟨(by show 2≤sizeLine; decide),fun r nr=>?_⟩
   have s5:=same_upd (o:=.tup [.str "line",.ref t4]) (Same.refl H4) nr
   exact kL r t4 l4 _ ((s13.trans s4).free nr) ((s13.trans s4).trans s5) upd_same (it4.same s5) lo
  ·refine ⟨_,rfl,false,(by show V.bl (!decide (V.non = V.non)) = V.bl false; rw [decide_eq_true rfl]; rfl),iteF ?_⟩
   have s13:=s12.trans s3
   refine ⟨_,rfl,r2,z2,es.map (·.1),.ref aN,(0,0),rfl,s3.seq (SqL.of h2),p2.same s3,lc,bE,z0 H3,(by unfold Bd2; decide),no,fun r4 z4 sh H4 n4 s4 h4 w4 oks=>?_⟩
   have s14:=s13.trans s4
   have lsh:=w4.length
   have lok:=oks.len
   have hd4:=s4 _ _ (s3 _ _ hd2)
   have st4:AreSteps H4 kvs es:=AreSteps.keep st2 (Same.keep (s3.trans s4))
   refine ⟨r4,rfl,⟨_,SqL.of h4⟩,fun D hD=>?_⟩
   have sD:Same H4 (upd H4 D (.lst [])):=same_upd (Same.refl H4) hD
   refine comp_list (K:=K) (a:=r4) (xs:=z4) (fun j σ' H'=>∃ v1 v2 us shn,σ' = [v1,v2,some (.ref d)]∧Same H4 H'∧H' D = some (.lst us)∧AreShN H' us shn∧shn.map (fun e=>(e.1.1,e.2)) = sh.take j∧∀ e ∈ shn,e.1 ∈ es)
    ⟨none,none,[],[],rfl,sD,upd_same,.nil,rfl,by simp⟩ (fun j σ' H' _ ⟨_,_,_,_,_,s5,_⟩=>s5.seq (SqL.of h4)) ?_ ?_
   ·rintro j x σ' H' hj ⟨v1,v2,us,shn,rfl,s5,h5,w5,m5,i5⟩
    obtain ⟨e,e1,e2⟩:=Pair.get w4 hj
    have hjl:=(List.getElem?_eq_some_iff.mp hj).1
    have lw:=w5.length
    have lm:shn.length = min j sh.length:=by rw [← List.length_take,← m5,List.length_map]
    obtain ⟨t,c,rfl,ht,uc,rfl,hc⟩:=e2
    have me:e.1 ∈ es.map (·.1):=cornersM_sub bE _ (oks.mem e (List.mem_of_getElem? e1))
    obtain ⟨g,hg,eg⟩:=List.mem_map.mp me
    have mg':(e.1,g.2) ∈ es:=by rw [← eg]; exact hg
    obtain ⟨v,v1',v2'⟩:=steps_val (st4.keep (Same.keep s5)) ok.nd mg'
    refine ⟨t,_,rfl,SqT.of (s5 _ _ ht),rfl,_,_,rfl,_,_,rfl,rfl,?_⟩
    dsimp only [tYes]
    refine iteT ⟨_,rfl,_,rfl,d,v,rfl,v1' ▸ DGet.t (k:=kpt e.1) (s5 _ _ hd4) (s5 _ _ hc),_,rfl,(by show 2≤sizeLine; decide),fun u nu=>?_⟩
    have s6:=same_upd (o:=.tup [v,.int e.2]) (Same.refl H') nu
    have hDD:=s6 _ _ h5
    refine ⟨us,hDD,small1000 (by omega),_,_,_,shn++[((e.1,g.2),e.2)],rfl,same_upd (s5.trans s6) hD,upd_same,?_,?_,?_⟩
    ·have kp:Keep H' (upd (upd H' u (.tup [v,.int e.2])) D (.lst (us++[.ref u]))):=(Same.keep s6).trans (Keep.lst hDD _)
     refine Pair.append (Paired.mapP w5 fun _ _ z=>IsShN.keep z kp) (.cons ⟨u,v,rfl,?_,v2'.keep kp⟩ .nil)
     have:u ≠ D:=fun e=>by subst e; rw [h5] at nu; cases nu
     rw [upd_ne this,upd_same]
    ·rw [List.map_append,m5,take_snoc e1]; rfl
    ·intro e' he'
     rcases List.mem_append.mp he' with z | z
     ·exact i5 e' z
     ·rw [List.mem_singleton] at z; rw [z]; exact mg'
   ·rintro σ' H5 ⟨v1,v2,us,shn,rfl,s5,h5,w5,m5,i5⟩
    rw [List.take_of_length_le (by omega)] at m5
    have lw:=w5.length
    have lm:shn.length = sh.length:=by rw [← m5,List.length_map]
    have s15:=s14.trans s5
    have oks':ShOk (cornersM (es.map (·.1))) (0,0) (shn.map fun e=>(e.1.1,e.2)):=by rw [m5]; exact oks
    have shnOk:ShnOk A B shn:=⟨fun e he=>ok.ix e.1 (i5 e he)⟩
    refine ⟨_,rfl,D,rfl,⟨_,SqL.of h5⟩,fun D1 hD1=>?_⟩
    refine comp_list (K:=K) (a:=D) (xs:=us) (fun j σ' H'=>∃ v1 v2 ws,σ' = [v1,v2]∧Same H5 H'∧H' D1 = some (.lst ws)∧ArePts H' ws ((ones shn).take j))
     ⟨none,none,[],rfl,same_upd (Same.refl H5) hD1,upd_same,.nil⟩ (fun j σ' H' _ ⟨_,_,_,_,s6,_⟩=>s6.seq (SqL.of h5)) ?_ ?_
    ·rintro j x σ' H' hj ⟨v1,v2,ws,rfl,s6,h6,w6⟩
     obtain ⟨e,e1,e2⟩:=Pair.get w5 hj
     have hjl:=(List.getElem?_eq_some_iff.mp hj).1
     have lww:=w6.length
     rw [List.length_take] at lww
     obtain ⟨t,c,rfl,ht,uc,rfl,hc⟩:=e2
     refine ⟨t,_,rfl,SqT.of (s6 _ _ ht),rfl,_,_,rfl,_,_,rfl,rfl,?_⟩
     dsimp only [tYes]
     refine iteT ⟨_,rfl,uc,_,_,_,rfl,rfl,SqT.of (s6 _ _ hc),atI_nat (j:=0) rfl,_,rfl,(by show 2≤sizeLine; decide),fun u nu=>?_⟩
     have s7:=same_upd (o:=.tup [.int e.1.2.1,.int e.2]) (Same.refl H') nu
     have hDD:=s7 _ _ h6
     refine ⟨ws,hDD,small1000 (by omega),_,_,_,rfl,same_upd (s6.trans s7) hD1,upd_same,?_⟩
     rw [take_snoc (show (ones shn)[j]? = some (e.1.2.1,e.2) by unfold ones; rw [List.getElem?_map,e1]; rfl)]
     refine Pair.append (ArePts.keep w6 ((Same.keep s7).trans (Keep.lst hDD _))) (.cons ⟨u,rfl,?_⟩ .nil)
     have:u ≠ D1:=fun e=>by subst e; rw [h6] at nu; cases nu
     rw [upd_ne this,upd_same]
    ·rintro σ' H6 ⟨v1,v2,ws,rfl,s6,h6,w6⟩
     have l1:(ones shn).length = shn.length:=by unfold ones; rw [List.length_map]
     rw [List.take_of_length_le (by omega)] at w6
     refine ⟨D1,ws,ones shn,rfl,SqL.of h6,w6,by omega,fun r7 w7 o1 H7 n7 s7 h7 p7 a1=>?_⟩
     have s57:=s6.trans s7
     have h57:=s57 _ _ h5
     have w57:AreShN H7 us shn:=Paired.mapP w5 fun _ _ z=>IsShN.keep z (Same.keep s57)
     refine ⟨_,rfl,D,rfl,⟨_,SqL.of h57⟩,fun D2 hD2=>?_⟩
     refine comp_list (K:=K) (a:=D) (xs:=us) (fun j σ' H'=>∃ v1 v2 ws,σ' = [v1,v2]∧Same H7 H'∧H' D2 = some (.lst ws)∧ArePts H' ws ((othrs shn).take j))
      ⟨none,none,[],rfl,same_upd (Same.refl H7) hD2,upd_same,.nil⟩ (fun j σ' H' _ ⟨_,_,_,_,s8,_⟩=>s8.seq (SqL.of h57)) ?_ ?_
     ·rintro j x σ' H' hj ⟨v1,v2,ws,rfl,s8,h8,w8⟩
      obtain ⟨e,e1,e2⟩:=Pair.get w57 hj
      have hjl:=(List.getElem?_eq_some_iff.mp hj).1
      have lww:=w8.length
      rw [List.length_take] at lww
      obtain ⟨t,c,rfl,ht,uc,rfl,hc⟩:=e2
      refine ⟨t,_,rfl,SqT.of (s8 _ _ ht),rfl,_,_,rfl,_,_,rfl,rfl,?_⟩
      dsimp only [tYes]
      refine iteT ⟨_,rfl,uc,_,_,_,rfl,rfl,SqT.of (s8 _ _ hc),atI_nat (j:=1) rfl,_,rfl,(by show 2≤sizeLine; decide),fun u nu=>?_⟩
      have s9:=same_upd (o:=.tup [.int e.1.2.2,.int e.2]) (Same.refl H') nu
      have hDD:=s9 _ _ h8
      refine ⟨ws,hDD,small1000 (by omega),_,_,_,rfl,same_upd (s8.trans s9) hD2,upd_same,?_⟩
      rw [take_snoc (show (othrs shn)[j]? = some (e.1.2.2,e.2) by unfold othrs; rw [List.getElem?_map,e1]; rfl)]
      refine Pair.append (ArePts.keep w8 ((Same.keep s9).trans (Keep.lst hDD _))) (.cons ⟨u,rfl,?_⟩ .nil)
      have:u ≠ D2:=fun e=>by subst e; rw [h8] at nu; cases nu
      rw [upd_ne this,upd_same]
     ·rintro σ' H8 ⟨v1,v2,ws2,rfl,s8,h8,w8⟩
      have l2:(othrs shn).length = shn.length:=by unfold othrs; rw [List.length_map]
      rw [List.take_of_length_le (by omega)] at w8
      refine ⟨D2,ws2,othrs shn,rfl,SqL.of h8,w8,by omega,fun r9 w9 o2 H9 n9 s9 h9 p9 a2=>?_⟩
      obtain ⟨pos,lt,po1,po2⟩:=spot_ok oks' shnOk a1 a2
      have po1':PrOk A o1 (lowM (spotT A o1)):=po1
      have po2':PrOk B o2 (lowM (spotT A o1)):=po2
      have pos':0 < (spotT A o1).2.2:=pos
      have lt':(spotT A o1).2.2≤64000000:=lt
      have s79:=s8.trans s9
      have s19:=s15.trans (s57.trans s79)
      have len1:=po1'.len
      have len2:=po2'.len
      refine ⟨_,rfl,_,rfl,a,xs,A,r7,w7,o1,rfl,s19.seq ha,hx.same s19,bA,SqL.of (s79 _ _ h7),p7.same s79,by omega,fun q hq=>⟨(po1'.ix q hq).1,(po1'.ix q hq).2,po1'.nn q hq⟩,pos',lt',fun r10 H10 n10 s10 t10=>?_⟩
      have sp:=lowM_ok pos'
      have s710:=s79.trans s10
      refine ⟨_,rfl,r7,w7,o1,rfl,SqL.of (s710 _ _ h7),p7.same s710,by omega,po1'.nn,po1'.pos,po1'.lt,fun r11 w11 H11 n11 s11 h11 t11=>?_⟩
      have s911:=s10.trans s11
      refine ⟨_,rfl,r9,w9,o2,rfl,SqL.of (s911 _ _ h9),p9.same s911,by omega,po2'.nn,po2'.pos,po2'.lt,fun r12 w12 H12 n12 s12' h12 t12=>?_⟩
      refine ⟨(by show 4≤sizeLine; decide),fun r nr=>?_⟩
      have sN:=same_upd (o:=.tup [.str "spot",.ref r10,.ref r11,.ref r12]) (Same.refl H12) nr
      have s112:=s19.trans (s911.trans s12')
      have s12N:=s12'.trans sN
      refine kS r r10 r11 r12 w11 w12 _ _ (lowM (spotT A o1)) _ (s112.free nr) ((s19.trans s10).free n11) ((s19.trans s911).free n12) ?_ (s112.trans sN) upd_same (t10.same (s11.trans s12N)) (s12N _ _ h11) (t11.same s12N) (sN _ _ h12) (t12.same sN) sp ?_ (weigh_ok po1') (weigh_ok po2') (po1'.hull sp.pos) (po2'.hull sp.pos)
      ·intro e; rw [e] at h11; rw [h11] at n12; cases n12
      ·exact spot_b bA (fun q hq=>⟨(po1'.ix q hq).1,(po1'.ix q hq).2,po1'.nn q hq⟩) pos' lt'
end
end Toy
set_option maxRecDepth 100000
namespace Toy
open PySem L2 Geo
def Meet (A B:List Pt):Prop:=∃ t:Tri,0 < t.2.2∧InHullS A t∧InHullS B t
theorem Meet.symm {A B:List Pt} (h:Meet A B):Meet B A:=by obtain ⟨t,h0,h1,h2⟩:=h; exact ⟨t,h0,h2,h1⟩
section
variable {P:Program} {w:World} {K:PySem.W.Frag} {mg:Str→Option Value} {base:Heap}
theorem scParted:FnScope ["ones","others"] ["ones","others"] (defScope sParted):=⟨rfl,rfl,rfl,by decide +kernel,rfl,by decide +kernel,by decide +kernel⟩
theorem ok_parted {f g1 g2:Addr} {fd d1 d2:FuncData} (F:Fun K "parted" "parted" sParted f fd)
  (C:FnOk P w K mg base CX0 2 g1 d1 ["points"] (spChks K)) (b1:Binds K d1 ["points"] []) (k1:PySem.W.keepIn K (.ref g1) = true) (m1:mg "check_points" = some (.ref g1))
  (S:FnOk P w K mg base CX0 4 g2 d2 ["ones","others"] (spLS K)) (b2:Binds K d2 ["ones","others"] []) (k2:PySem.W.keepIn K (.ref g2) = true) (m2:mg "line_or_spot" = some (.ref g2)) :
  FnOk P w K mg base CX0 5 f fd ["ones","others"] (spLS K):=by
 refine F.ok scParted (fun vs H Q E h=>?_) (fun cdv A' outer s H vs Q E hr h=>?_)
 ·obtain ⟨a,xs,A,b,ys,B,rfl,_⟩:=h; rfl
 ·obtain ⟨a,xs,A,b,ys,B,rfl,ha,hx,hb,hy,bA,bB,lAB,lA,lB,kL,kS⟩:=h
  have hr2:Room 2 _:=hr.mono (by decide)
  refine ⟨_,pss_cons (ps_expr (pe_call C hr2 rfl m1 k1 b1 .nil pass0 (pa_cons (pv 0) pa_nil)))
   (pss_cons (ps_expr (pe_call C hr2 rfl m1 k1 b1 .nil pass0 (pa_cons (pv 1) pa_nil)))
   (pss_one (ps_ret (pe_call S hr rfl m2 k2 b2 .nil pass0 (pa_cons (pv 0) (pa_cons (pv 1) pa_nil)))))),?_⟩
  refine ⟨_,rfl,a,xs,A,rfl,ha,hx,lA,bA,?_⟩
  refine ⟨_,rfl,b,ys,B,rfl,hb,hy,lB,bB,?_⟩
  exact ⟨_,rfl,_,rfl,a,xs,A,b,ys,B,rfl,ha,hx,hb,hy,bA,bB,lAB,lA,lB,kL,kS⟩
end
end Toy
set_option maxRecDepth 100000
namespace Toy
open PySem L2 Geo
section
variable {P:Program} {w:World} {K:PySem.W.Frag} {mg:Str→Option Value} {base:Heap}
theorem scAt:FnScope ["line","point"] ["line","point"] (defScope sAt):=⟨rfl,rfl,rfl,by decide +kernel,rfl,by decide +kernel,by decide +kernel⟩
theorem ok_at {f:Addr} {fd:FuncData} (F:Fun K "_law_at" "_law_at" sAt f fd):FnOk P w K mg base CX0 1 f fd ["line","point"] (spWorth K):=by
 refine F.ok scAt (fun vs H Q E h=>?_) (fun cdv A outer s H vs Q E hr h=>?_)
 ·obtain ⟨u,v,l,p,rfl,_⟩:=h; rfl
 ·obtain ⟨u,v,l,p,rfl,⟨a,rfl,ha⟩,⟨b,rfl,hb⟩,bp,k⟩:=h
  refine ⟨_,pss_one (ps_ret (pe_op op_add (pe_op op_add
   (pe_op op_mul (pe_ix ix_tup (pv 0) pe_int (fun _ _=>rfl)) (pe_ix ix_tup (pv 1) pe_int (fun _ _=>rfl)))
   (pe_op op_mul (pe_ix ix_tup (pv 0) pe_int (fun _ _=>rfl)) (pe_ix ix_tup (pv 1) pe_int (fun _ _=>rfl))))
   (pe_ix ix_tup (pv 0) pe_int (fun _ _=>rfl)))),?_⟩
  refine ⟨_,rfl,a,_,_,_,rfl,rfl,SqT.of ha,atI_nat (j:=0) rfl,_,rfl,b,_,_,_,rfl,rfl,hb,atI_nat (j:=0) rfl,_,_,rfl,rfl,mulR _ _ bp.1 bp.2.1,?_⟩
  refine ⟨_,rfl,a,_,_,_,rfl,rfl,SqT.of ha,atI_nat (j:=1) rfl,_,rfl,b,_,_,_,rfl,rfl,hb,atI_nat (j:=1) rfl,_,_,rfl,rfl,mulR _ _ bp.2.2.1 bp.2.2.2,?_⟩
  exact ⟨_,_,rfl,rfl,_,rfl,a,_,_,_,rfl,rfl,SqT.of ha,atI_nat (j:=2) rfl,_,_,rfl,rfl,k⟩
theorem scCommon:FnScope ["one","other"] ["one","other"] (defScope sCommon):=⟨rfl,rfl,rfl,by decide +kernel,rfl,by decide +kernel,by decide +kernel⟩
theorem ok_common {f:Addr} {fd:FuncData} (F:Fun K "_law_common" "_law_common" sCommon f fd):FnOk P w K mg base CX0 1 f fd ["one","other"] spGcd:=by
 refine F.ok scCommon (fun vs H Q E h=>?_) (fun cdv A outer s H vs Q E hr h=>?_)
 ·obtain ⟨a,b,rfl,_⟩:=h; rfl
 ·obtain ⟨a,b,rfl,ha,hb,k⟩:=h
  refine ⟨_,pss_cons (ps_while PassesOwn.never (pt_cmpR op_gt (pv 1) pe_int (nomark _))
    (pss_one (ps_par (i:=0) (j:=1) rfl scCommon.nd rfl rfl (by decide) rfl rfl (pa_cons (pv 1) (pa_cons (pe_op op_mod (pv 0) (pv 1)) pa_nil)) rfl)))
   (pss_one (ps_ret (pv 0))),?_⟩
  refine ⟨fun m σ' H3=>∃ x y,σ' = [some (.int x),some (.int y)]∧H3 = H∧m = y.toNat∧0≤x∧0≤y∧Int.gcd x y = Int.gcd a b,⟨_,a,b,rfl,rfl,rfl,ha,hb,rfl⟩,?_⟩
  rintro m σ' H3 ⟨x,y,rfl,rfl,rfl,hx,hy,e⟩
  refine ⟨_,rfl,_,_,rfl,rfl,_,rfl,?_⟩
  by_cases hy0:0 < y
  ·rw [decide_eq_true hy0]
   refine iteT ⟨fun σ4 H4=>σ4 = [some (.int y),some (.int (x % y))]∧H4 = H3,fun σ4 H4 ⟨e4,e5⟩=>⟨(x % y).toNat,?_,y,x % y,e4,e5,rfl,hy,Int.emod_nonneg _ (by omega),?_⟩,?_⟩
   ·have:=Int.emod_lt_of_pos x hy0
    have:=Int.emod_nonneg x (show y ≠ 0 by omega)
    omega
   ·rw [gcd_step hx hy0]; exact e
   ·exact ⟨_,rfl,_,rfl,_,rfl,_,_,rfl,rfl,hy0,_,_,rfl,rfl,rfl⟩
  ·rw [decide_eq_false hy0]
   refine iteF ⟨_,rfl,?_⟩
   have y0:y = 0:=by omega
   subst y0
   have:=gcd_zero hx
   rw [← e,this] at k
   exact k
abbrev n_sIsLine:List Str:=["found"]
def spIsLine:Sp:=fun vs H Q _=>∃ v t,vs = [v]∧IsTri H v t∧∀ H',Same H H'→Q (.bl true) H'
theorem scIsLine:FnScope n_sIsLine ["found"] (defScope sIsLine):=⟨rfl,rfl,rfl,by decide +kernel,rfl,by decide +kernel,by decide +kernel⟩
abbrev c_isl:Scope:={ kind:=.function,names:=[(".0",.local),("number",.local),("_law_whole",.globalImplicit)],isGenerator:=false,isCoroutine:=false }
theorem cs_isl {cdv:Value} {A:Around} {outer:List Env} {s:Shared} {H:Hp} {E:XK} {f:Addr}:CompScope (cxOf CX0 P w K mg base n_sIsLine "_law_is_line" (defScope sIsLine) f cdv A outer s H E).nox c_isl ["number"] [none] where
 kind:=rfl
 nocell:=by decide +kernel
 names:=by decide +kernel
 frees:=by show ∀ z ∈ c_isl.names,z.2 = .free→(defScope sIsLine).names.lookup z.1 = some .cell; decide +kernel
 nd:=by decide +kernel
 len:=rfl
 cap:=fun i j h=>match i,h with
  | 0,h=>by simp at h
  | n+1,h=>by simp at h
theorem nd_isl:(["number"]:List Str).Nodup:=by decide +kernel
theorem three_ints {t:Tri} {j:Nat} {x:V} (h:([.int t.1,.int t.2.1,.int t.2.2]:List V)[j]? = some x):∃ z,x = V.int z∧j < 3:=by
 have hj:=(List.getElem?_eq_some_iff.mp h).1
 have hj':j < 3:=hj
 have:j = 0∨j = 1∨j = 2:=by omega
 rcases this with e | e | e <;> subst e <;> simp at h <;> exact ⟨_,h.symm,by decide⟩
theorem ok_isline {f g:Addr} {fd gd:FuncData} (F:Fun K "_law_is_line" "_law_is_line" sIsLine f fd) (T:Txt mg)
  (W:FnOk P w K mg base CX0 1 g gd ["found"] spWhole) (bW:Binds K gd ["found"] []) (kW:PySem.W.keepIn K (.ref g) = true) (mW:mg "_law_whole" = some (.ref g)):FnOk P w K mg base CX0 2 f fd ["found"] spIsLine:=by
 refine F.ok scIsLine (fun vs H Q E h=>?_) (fun cdv A outer s H vs Q E hr h=>?_)
 ·obtain ⟨v,t,rfl,_⟩:=h; rfl
 ·obtain ⟨v,t,rfl,⟨a,rfl,ha⟩,k⟩:=h
  refine ⟨_,pss_cons (ps_if (PW.pt (pw_or (pt_not (pt_val (pe_callB call_isi rfl T.isinstance PyProof.Rows.boot_isinstance (pa_cons (pv 0) (pa_cons (pe_bltn (v:=.ty "tuple") rfl T.tuple PyProof.Rows.boot_tuple rfl) pa_nil)))))
    (pw_or1 (pt_cmpR op_ne (pe_callB call_len_seq rfl T.len PySem.boot_len (pa_cons (pv 0) pa_nil)) pe_int (nomark _))))) (pss_one (ps_ret pe_bl)) pss_nil)
   (pss_one (ps_ret (pe_callB (call_allL hr.hd) rfl T.all PyProof.Rows.boot_all (pa_cons (pe_comp cs_isl rfl (pi_tup (pv 0)) (fun _ _ _ _ _=>pg_name (i:=0) nd_isl rfl (Or.inl rfl)) (fun _ _ _ _ _=>pif_nil)
    (fun _ _ _ _ _=>pe_call W hr rfl mW kW bW .nil pass0 (pa_cons (pv 0) pa_nil))) pa_nil)))),?_⟩
  refine ⟨_,rfl,_,"tuple","tuple",true,rfl,.inr ⟨rfl,_,SqT.of ha⟩,kit_tup_tup,_,rfl,iteF ?_⟩
  refine ⟨_,rfl,a,_,rfl,.inr (SqT.of ha),rfl,_,rfl,iteF ?_⟩
  refine ⟨_,rfl,a,rfl,⟨_,SqT.of ha⟩,fun D hD=>?_⟩
  have sD:Same H (upd H D (.lst [])):=same_upd (Same.refl H) hD
  refine comp_tup (K:=K) (a:=a) (xs:=[.int t.1,.int t.2.1,.int t.2.2]) (fun j σ' H3=>∃ v bs,σ' = [v]∧Same H H3∧H3 D = some (.lst (bs.map V.bl))∧bs.length = j∧bs.all id = true)
   ⟨none,[],rfl,sD,upd_same,rfl,rfl⟩ (fun j σ' H3 _ ⟨_,_,_,s7,_⟩=>SqT.of (s7 _ _ ha)) ?_ ?_
  ·rintro j x σ' H3 hj ⟨v,bs,rfl,s7,h7,lb,ab⟩
   obtain ⟨z,rfl,hj3⟩:=three_ints hj
   dsimp only [gName,tYes]
   refine iteT ⟨_,rfl,z,rfl,bs.map V.bl,h7,small1000 (by rw [List.length_map]; omega),_,bs++[true],rfl,same_upd s7 hD,?_,by simp [lb],by simp at ab ⊢; exact ab⟩
   rw [upd_same,List.map_append]; rfl
  ·rintro σ' H3 ⟨v,bs,rfl,s7,h7,lb,ab⟩
   refine ⟨D,bs,rfl,SqL.of h7,?_⟩
   have:Q (.bl (bs.all id)) H3:=by rw [ab]; exact k H3 s7
   exact this
abbrev n_sIsPart:List Str:=["part"]
def spIsPart:Sp:=fun vs H Q _=>∃ v t,vs = [v]∧IsTri H v t∧0 < t.2.1∧0 < t.2.2∧Int.gcd t.2.1 t.2.2 = 1∧∀ H',Same H H'→Q (.bl true) H'
theorem scIsPart:FnScope n_sIsPart ["part"] (defScope sIsPart):=⟨rfl,rfl,rfl,by decide +kernel,rfl,by decide +kernel,by decide +kernel⟩
abbrev c_isp:Scope:={ kind:=.function,names:=[(".0",.local),("number",.local),("_law_whole",.globalImplicit)],isGenerator:=false,isCoroutine:=false }
theorem cs_isp {cdv:Value} {A:Around} {outer:List Env} {s:Shared} {H:Hp} {E:XK} {f:Addr}:CompScope (cxOf CX0 P w K mg base n_sIsPart "_law_is_part" (defScope sIsPart) f cdv A outer s H E).nox c_isp ["number"] [none] where
 kind:=rfl
 nocell:=by decide +kernel
 names:=by decide +kernel
 frees:=by show ∀ z ∈ c_isp.names,z.2 = .free→(defScope sIsPart).names.lookup z.1 = some .cell; decide +kernel
 nd:=by decide +kernel
 len:=rfl
 cap:=fun i j h=>match i,h with
  | 0,h=>by simp at h
  | n+1,h=>by simp at h
theorem nd_isp:(["number"]:List Str).Nodup:=by decide +kernel
theorem ok_ispart {f g h:Addr} {fd gd hd:FuncData} (F:Fun K "_law_is_part" "_law_is_part" sIsPart f fd) (T:Txt mg)
  (W:FnOk P w K mg base CX0 1 g gd ["found"] spWhole) (bW:Binds K gd ["found"] []) (kW:PySem.W.keepIn K (.ref g) = true) (mW:mg "_law_whole" = some (.ref g))
  (C:FnOk P w K mg base CX0 1 h hd ["one","other"] spGcd) (bC:Binds K hd ["one","other"] []) (kC:PySem.W.keepIn K (.ref h) = true) (mC:mg "_law_common" = some (.ref h)):FnOk P w K mg base CX0 2 f fd ["part"] spIsPart:=by
 refine F.ok scIsPart (fun vs H Q E h=>?_) (fun cdv A outer s H vs Q E hr h=>?_)
 ·obtain ⟨v,t,rfl,_⟩:=h; rfl
 ·obtain ⟨v,t,rfl,⟨a,rfl,ha⟩,t1,t2,t3,k⟩:=h
  refine ⟨_,pss_cons (ps_if (PW.pt (pw_or (pt_not (pt_val (pe_callB call_isi rfl T.isinstance PyProof.Rows.boot_isinstance (pa_cons (pv 0) (pa_cons (pe_bltn (v:=.ty "tuple") rfl T.tuple PyProof.Rows.boot_tuple rfl) pa_nil)))))
    (pw_or (pt_cmpR op_ne (pe_callB call_len_seq rfl T.len PySem.boot_len (pa_cons (pv 0) pa_nil)) pe_int (nomark _))
    (pw_or1 (pt_not (pt_val (pe_callB (call_allL hr.hd) rfl T.all PyProof.Rows.boot_all (pa_cons (pe_comp cs_isp rfl (pi_tup (pv 0)) (fun _ _ _ _ _=>pg_name (i:=0) nd_isp rfl (Or.inl rfl)) (fun _ _ _ _ _=>pif_nil)
     (fun _ _ _ _ _=>pe_call W hr rfl mW kW bW .nil pass0 (pa_cons (pv 0) pa_nil))) pa_nil)))))))) (pss_one (ps_ret pe_bl)) pss_nil)
   (pss_one (ps_ret (pe_and (pe_cmpR op_gt (pe_ix ix_tup (pv 0) pe_int (fun _ _=>rfl)) pe_int (nomark _)) (pe_and (pe_cmpR op_gt (pe_ix ix_tup (pv 0) pe_int (fun _ _=>rfl)) pe_int (nomark _))
    (pe_one (pe_cmpR op_eq (pe_call C hr rfl mC kC bC .nil pass0 (pa_cons (pe_ix ix_tup (pv 0) pe_int (fun _ _=>rfl)) (pa_cons (pe_ix ix_tup (pv 0) pe_int (fun _ _=>rfl)) pa_nil))) pe_int (nomark _))))))),?_⟩
  refine ⟨_,rfl,_,"tuple","tuple",true,rfl,.inr ⟨rfl,_,SqT.of ha⟩,kit_tup_tup,_,rfl,iteF ?_⟩
  refine ⟨_,rfl,a,_,rfl,.inr (SqT.of ha),rfl,_,rfl,iteF ?_⟩
  refine ⟨_,rfl,a,rfl,⟨_,SqT.of ha⟩,fun D hD=>?_⟩
  have sD:Same H (upd H D (.lst [])):=same_upd (Same.refl H) hD
  refine comp_tup (K:=K) (a:=a) (xs:=[.int t.1,.int t.2.1,.int t.2.2]) (fun j σ' H3=>∃ v bs,σ' = [v]∧Same H H3∧H3 D = some (.lst (bs.map V.bl))∧bs.length = j∧bs.all id = true)
   ⟨none,[],rfl,sD,upd_same,rfl,rfl⟩ (fun j σ' H3 _ ⟨_,_,_,s7,_⟩=>SqT.of (s7 _ _ ha)) ?_ ?_
  ·rintro j x σ' H3 hj ⟨v,bs,rfl,s7,h7,lb,ab⟩
   obtain ⟨z,rfl,hj3⟩:=three_ints hj
   dsimp only [gName,tYes]
   refine iteT ⟨_,rfl,z,rfl,bs.map V.bl,h7,small1000 (by rw [List.length_map]; omega),_,bs++[true],rfl,same_upd s7 hD,?_,by simp [lb],by simp at ab ⊢; exact ab⟩
   rw [upd_same,List.map_append]; rfl
  ·rintro σ' H3 ⟨v,bs,rfl,s7,h7,lb,ab⟩
   refine ⟨D,bs,rfl,SqL.of h7,_,rfl,?_⟩
   rw [ab]
   refine iteF ?_
   have h3:=s7 _ _ ha
   refine ⟨_,rfl,a,_,_,_,rfl,rfl,SqT.of h3,atI_nat (j:=1) rfl,_,_,rfl,rfl,true,(by show V.bl (decide (t.2.1 > 0)) = V.bl true; rw [decide_eq_true t1]),iteT ?_⟩
   refine ⟨_,rfl,a,_,_,_,rfl,rfl,SqT.of h3,atI_nat (j:=2) rfl,_,_,rfl,rfl,true,(by show V.bl (decide (t.2.2 > 0)) = V.bl true; rw [decide_eq_true t2]),iteT ?_⟩
   refine ⟨_,rfl,a,_,_,_,rfl,rfl,SqT.of h3,atI_nat (j:=1) rfl,_,rfl,a,_,_,_,rfl,rfl,SqT.of h3,atI_nat (j:=2) rfl,t.2.1,t.2.2,rfl,by omega,by omega,rfl,?_⟩
   have:Q (.bl (decide (V.int ((Int.gcd t.2.1 t.2.2:Nat):Int) = V.int 1))) H3:=by rw [t3]; exact k H3 s7
   exact this
abbrev n_sWeighs:List Str:=["points","found","spot","before","sums","below","part","here"]
def Bs (t:Tri):Prop:=-4611686018427387904≤t.1∧t.1≤4611686018427387904∧-4611686018427387904≤t.2.1∧t.2.1≤4611686018427387904∧-4611686018427387904≤t.2.2∧t.2.2≤4611686018427387904
def spWeighs (K:PySem.W.Frag):Sp:=fun vs H Q _=>∃ a xs ps b ys tri v spot,vs = [.ref a,.ref b,v]∧SqL K H a xs∧ArePts H xs ps∧(∀ q ∈ ps,Bd q)∧ps.length≤1000∧SqL K H b ys∧AreTri H ys tri∧IsTri H v spot∧Bs spot∧WOk ps tri spot∧∀ H',Same H H'→Q (.bl true) H'
theorem scWeighs:FnScope n_sWeighs ["points","found","spot"] (defScope sWeighs):=⟨rfl,rfl,rfl,by decide +kernel,rfl,by decide +kernel,by decide +kernel⟩
abbrev c_wgs:Scope:={ kind:=.function,names:=[(".0",.local),("k",.local),("below",.free),("here",.free),("part",.free),("sums",.free)],isGenerator:=false,isCoroutine:=false }
theorem cs_wgs {cdv:Value} {A:Around} {outer:List Env} {s:Shared} {H:Hp} {E:XK} {f:Addr}:CompScope (cxOf CX0 P w K mg base n_sWeighs "_law_weighs" (defScope sWeighs) f cdv A outer s H E).nox c_wgs ["k","below","here","part","sums"] [none,some 5,some 7,some 6,some 4] where
 kind:=rfl
 nocell:=by decide +kernel
 names:=by decide +kernel
 frees:=by show ∀ z ∈ c_wgs.names,z.2 = .free→(defScope sWeighs).names.lookup z.1 = some .cell; decide +kernel
 nd:=by decide +kernel
 len:=rfl
 cap:=fun i j h=>match i,h with
  | 0,h=>by simp at h
  | 1,h=>by
   simp at h; subst h
   exact ⟨"below",rfl,rfl,by decide +kernel,rfl,.inl rfl⟩
  | 2,h=>by
   simp at h; subst h
   exact ⟨"here",rfl,rfl,by decide +kernel,rfl,.inl rfl⟩
  | 3,h=>by
   simp at h; subst h
   exact ⟨"part",rfl,rfl,by decide +kernel,rfl,.inl rfl⟩
  | 4,h=>by
   simp at h; subst h
   exact ⟨"sums",rfl,rfl,by decide +kernel,rfl,.inl rfl⟩
  | n+5,h=>by simp at h
theorem nd_wgs:(["k","below","here","part","sums"]:List Str).Nodup:=by decide +kernel
theorem accM_snoc {ps:List Pt} {l:List Tri} {t:Tri}:accM ps (l++[t]) = Acc.step ps (accM ps l) t:=by unfold accM; rw [List.foldl_append]; rfl
theorem ok_weighs {f g:Addr} {fd gd:FuncData} (F:Fun K "_law_weighs" "_law_weighs" sWeighs f fd) (T:Txt mg)
  (G:FnOk P w K mg base CX0 2 g gd ["part"] spIsPart) (bG:Binds K gd ["part"] []) (kG:PySem.W.keepIn K (.ref g) = true) (mG:mg "_law_is_part" = some (.ref g)):FnOk P w K mg base CX0 3 f fd ["points","found","spot"] (spWeighs K):=by
 refine F.ok scWeighs (fun vs H Q E h=>?_) (fun cdv A outer s H vs Q E hr h=>?_)
 ·obtain ⟨a,xs,ps,b,ys,tri,v,spot,rfl,_⟩:=h; rfl
 ·obtain ⟨a,xs,ps,b,ys,tri,v,spot,rfl,ha,hx,bd,lp,hb,hy,hv,bs,ok,k⟩:=h
  have ly:=hy.length
  have lx:=hx.length
  obtain ⟨o1,o2⟩:=ok.len
  refine ⟨_,pss_cons (ps_if (PW.pt (pw_or (pt_not (pt_val (pe_callB call_isi rfl T.isinstance PyProof.Rows.boot_isinstance (pa_cons (pv 1) (pa_cons (pe_bltn (v:=.ty "list") rfl T.list PyProof.Rows.boot_list rfl) pa_nil)))))
    (pw_or1 (pt_not (pt_chain op_le op_le pe_int (pe_callB call_len_seq rfl T.len PySem.boot_len (pa_cons (pv 1) pa_nil)) pe_int))))) (pss_one (ps_ret pe_bl)) pss_nil)
   (pss_cons (ps_set (i:=3) scWeighs.nd rfl (Or.inl rfl) (pe_un un_neg pe_int))
   (pss_cons (ps_set (i:=4) scWeighs.nd rfl (Or.inr rfl) (pe_lst (pa_cons pe_int (pa_cons pe_int (pa_cons pe_int pa_nil)))))
   (pss_cons (ps_set (i:=5) scWeighs.nd rfl (Or.inr rfl) pe_int)
   (pss_cons (ps_for PassesOwn.never rfl (pi_list (pv 1)) (pg_name (i:=6) scWeighs.nd rfl (Or.inr rfl))
    (pss_cons (ps_if (PW.pt (pw_or (pt_not (pt_val (pe_call G hr rfl mG kG bG .nil pass0 (pa_cons (pv 6) pa_nil))))
      (pw_or1 (pt_not (pt_chain op_lt op_lt (pv 3) (pe_ix ix_tup (pv 6) pe_int (fun _ _=>rfl)) (pe_callB call_len_seq rfl T.len PySem.boot_len (pa_cons (pv 0) pa_nil))))))) (pss_one (ps_ret pe_bl)) pss_nil)
    (pss_cons (ps_set (i:=3) scWeighs.nd rfl (Or.inl rfl) (pe_ix ix_tup (pv 6) pe_int (fun _ _=>rfl)))
    (pss_cons (ps_set (i:=7) scWeighs.nd rfl (Or.inr rfl) (pe_lst (pa_cons (pe_ix ix_tup (pe_ix ix_list (pv 0) (pe_ix ix_tup (pv 6) pe_int (fun _ _=>rfl)) (fun _ _=>rfl)) pe_int (fun _ _=>rfl))
      (pa_cons (pe_ix ix_tup (pe_ix ix_list (pv 0) (pe_ix ix_tup (pv 6) pe_int (fun _ _=>rfl)) (fun _ _=>rfl)) pe_int (fun _ _=>rfl)) (pa_cons pe_int pa_nil)))))
    (pss_cons (ps_set (i:=4) scWeighs.nd rfl (Or.inr rfl) (pe_comp cs_wgs rfl (pi_range1 rfl T.range (pa_cons pe_int pa_nil)) (fun _ _ _ _ _=>pg_name (i:=0) nd_wgs rfl (Or.inl rfl)) (fun _ _ _ _ _=>pif_nil)
      (fun _ _ _ _ _=>pe_op op_add (pe_op op_mul (pe_ix (ixl (K':=K) rfl) (pv 4) (pv 0) (fun _ _=>rfl)) (pe_ix (ixt (K':=K) rfl) (pv 3) pe_int (fun _ _=>rfl)))
       (pe_op op_mul (pe_op op_mul (pe_ix (ixl (K':=K) rfl) (pv 2) (pv 0) (fun _ _=>rfl)) (pe_ix (ixt (K':=K) rfl) (pv 3) pe_int (fun _ _=>rfl))) (pv 1)))))
    (pss_one (ps_set (i:=5) scWeighs.nd rfl (Or.inr rfl) (pe_op op_mul (pv 5) (pe_ix ix_tup (pv 6) pe_int (fun _ _=>rfl))))))))))
   (pss_cons (ps_if (pt_cmpR op_ne (pe_ix ix_list (pv 4) pe_int (fun _ _=>rfl)) (pv 5) (nomark _)) (pss_one (ps_ret pe_bl)) pss_nil)
   (pss_one (ps_ret (pe_and (pe_cmpR op_eq (pe_op op_mul (pe_ix ix_list (pv 4) pe_int (fun _ _=>rfl)) (pe_ix ix_tup (pv 2) pe_int (fun _ _=>rfl))) (pe_op op_mul (pe_ix ix_tup (pv 2) pe_int (fun _ _=>rfl)) (pv 5)) (nomark _))
    (pe_one (pe_cmpR op_eq (pe_op op_mul (pe_ix ix_list (pv 4) pe_int (fun _ _=>rfl)) (pe_ix ix_tup (pv 2) pe_int (fun _ _=>rfl))) (pe_op op_mul (pe_ix ix_tup (pv 2) pe_int (fun _ _=>rfl)) (pv 5)) (nomark _))))))))))),?_⟩
  refine ⟨_,rfl,_,"list","list",true,rfl,.inl ⟨rfl,_,hb⟩,kit_list_list,_,rfl,iteF ?_⟩
  refine ⟨_,rfl,b,_,rfl,.inl hb,_,_,rfl,rfl,true,(by show V.bl (decide ((1:Int)≤(ys.length:Int))) = V.bl true; rw [decide_eq_true (by omega)]),iteT ⟨_,_,rfl,rfl,true,(by show V.bl (decide ((ys.length:Int)≤3)) = V.bl true; rw [decide_eq_true (by omega)]),iteF ?_⟩⟩
  refine ⟨_,rfl,(by show 3≤sizeLine; decide),fun sl0 nsl=>?_⟩
  have s1:=same_upd (o:=.lst [.int 0,.int 0,.int 0]) (Same.refl H) nsl
  refine ⟨_,rfl,b,rfl,⟨_,s1.seq hb⟩,for_list (K:=K) (a:=b) (xs:=ys)
   (fun i σ H2=>∃ (sl:Addr) (bef:Int) (vp vh:Option V),σ = [some (.ref a),some (.ref b),some v,some (.int bef),some (.ref sl),some (.int (accM ps (tri.take i)).b),vp,vh]∧Same H H2∧H2 sl = some (.lst [.int (accM ps (tri.take i)).x,.int (accM ps (tri.take i)).y,.int (accM ps (tri.take i)).n])∧∀ t ∈ tri.drop i,bef < t.1)
   ⟨sl0,-1,none,none,rfl,s1,upd_same,fun t ht=>by have:=ok.ix t (List.mem_of_mem_drop ht); omega⟩ (fun i σ H2 _ ⟨_,_,_,_,_,s2,_⟩=>s2.seq hb) ?_ ?_⟩
  ·rintro i y σ H2 hi ⟨sl,bef,vp,vh,rfl,s2,h2,hbef⟩
   obtain ⟨t,t1,t2⟩:=Pair.get hy hi
   have mt:t ∈ tri:=List.mem_of_getElem? t1
   obtain ⟨q1,q2,q3,q4,q5⟩:=ok.part t mt
   obtain ⟨i1,i2⟩:=ok.ix t mt
   have hil:=(List.getElem?_eq_some_iff.mp t1).1
   have hk:t.1.toNat < ps.length:=by omega
   obtain ⟨u,u1,u2⟩:=Pair.get' hx (i:=t.1.toNat) (y:=ptAt ps t.1) (by unfold ptAt; rw [List.getD_eq_getElem?_getD,List.getElem?_eq_getElem hk]; rfl)
   have bpt:Bd (ptAt ps t.1):=bd _ (by unfold ptAt; rw [List.getD_eq_getElem?_getD,List.getElem?_eq_getElem hk]; exact List.getElem_mem hk)
   have atx:atI xs t.1 = some u:=by have:=atI_nat u1; rw [show ((t.1.toNat:Nat):Int) = t.1 by omega] at this; exact this
   refine ⟨_,rfl,y,t,rfl,t2.same s2,q1,q2,q3,fun H3 s3=>⟨_,rfl,iteF ?_⟩⟩
   have s23:=s2.trans s3
   obtain ⟨ay,rfl,hay0⟩:=t2
   have hay:=s23 _ _ hay0
   obtain ⟨au,rfl,hau0⟩:=u2
   have hau:=s23 _ _ hau0
   have hb1:bef < t.1:=hbef t (by rw [List.mem_iff_getElem?]; exact ⟨0,by rw [List.getElem?_drop]; simpa using t1⟩)
   refine ⟨_,rfl,_,rfl,ay,_,_,_,rfl,rfl,SqT.of hay,atI_nat (j:=0) rfl,_,_,rfl,rfl,true,(by show V.bl (decide (bef < t.1)) = V.bl true; rw [decide_eq_true hb1]),iteT ⟨_,rfl,a,_,rfl,.inl (s23.seq ha),_,_,rfl,rfl,true,(by show V.bl (decide (t.1 < (xs.length:Int))) = V.bl true; rw [decide_eq_true (by omega)]),iteF ?_⟩⟩
   refine ⟨_,rfl,ay,_,_,_,rfl,rfl,SqT.of hay,atI_nat (j:=0) rfl,?_⟩
   refine ⟨_,rfl,_,rfl,ay,_,_,_,rfl,rfl,SqT.of hay,atI_nat (j:=0) rfl,a,_,_,_,rfl,rfl,s23.seq ha,atx,au,_,_,_,rfl,rfl,SqT.of hau,atI_nat (j:=0) rfl,?_⟩
   refine ⟨_,rfl,_,rfl,ay,_,_,_,rfl,rfl,SqT.of hay,atI_nat (j:=0) rfl,a,_,_,_,rfl,rfl,s23.seq ha,atx,au,_,_,_,rfl,rfl,SqT.of hau,atI_nat (j:=1) rfl,?_⟩
   refine ⟨(by show 3≤sizeLine; decide),fun hl nhl=>?_⟩
   have s4:=same_upd (o:=.lst [.int (ptAt ps t.1).1,.int (ptAt ps t.1).2,.int 1]) (Same.refl H3) nhl
   have hsl:=(s3.trans s4) _ _ h2
   have hay4:=s4 _ _ hay
   have hhl:(upd H3 hl (.lst [.int (ptAt ps t.1).1,.int (ptAt ps t.1).2,.int 1])) hl = some (.lst [.int (ptAt ps t.1).1,.int (ptAt ps t.1).2,.int 1]):=upd_same
   have s24:=s23.trans s4
   generalize (upd H3 hl (.lst [.int (ptAt ps t.1).1,.int (ptAt ps t.1).2,.int 1])) = Hc at s24 hsl hay4 hhl
   generalize hA:accM ps (tri.take i) = Ac at *
   have hA':accM ps (tri.take (i+1)) = Acc.step ps Ac t:=by rw [take_snoc t1,accM_snoc,hA]
   obtain ⟨b1,b2,b3,b4⟩:=bpt
   have mx:=mul_bound (x:=(ptAt ps t.1).1) (y:=t.2.1) (B:=1000) (C:=64000000) b1 b2 (by omega) q4
   have my:=mul_bound (x:=(ptAt ps t.1).2) (y:=t.2.1) (B:=1000) (C:=64000000) b3 b4 (by omega) q4
   refine ⟨3,rfl,by decide,by decide,fun D hD=>?_⟩
   have sD:Same Hc (upd Hc D (.lst [])):=same_upd (Same.refl Hc) hD
   refine comp_range (lo:=0) (n:=3) (fun j σ' H'=>∃ vk,σ' = [vk,some (.int Ac.b),some (.ref hl),some (.ref ay),some (.ref sl)]∧Same Hc H'∧H' D = some (.lst ((([(Acc.step ps Ac t).x,(Acc.step ps Ac t).y,(Acc.step ps Ac t).n]:List Int).take j).map V.int)))
    ⟨none,rfl,sD,upd_same⟩ ?_ ?_
   ·rintro j σ' H' hj ⟨vk,rfl,s5,h5⟩
    have e3:j = 0∨j = 1∨j = 2:=by omega
    have g1:=s5 _ _ hsl
    have g2:=s5 _ _ hay4
    have g3:=s5 _ _ hhl
    dsimp only [gName,tYes]
    rcases e3 with e | e | e <;> subst e
    ·refine iteT ⟨_,rfl,_,rfl,sl,_,_,_,rfl,rfl,SqL.of g1,atI_nat (j:=0) rfl,_,rfl,ay,_,_,_,rfl,rfl,SqT.of g2,atI_nat (j:=2) rfl,_,_,rfl,rfl,mulR _ _ (by omega) (by omega),?_⟩
     refine ⟨_,rfl,_,rfl,hl,_,_,_,rfl,rfl,SqL.of g3,atI_nat (j:=0) rfl,_,rfl,ay,_,_,_,rfl,rfl,SqT.of g2,atI_nat (j:=1) rfl,_,_,rfl,rfl,mulL _ _ (by omega) (by omega),_,rfl,_,_,rfl,rfl,mulL _ _ (by omega) (by omega),_,_,rfl,rfl,?_⟩
     exact ⟨_,h5,small1000 (by simp),_,rfl,same_upd s5 hD,upd_same⟩
    ·refine iteT ⟨_,rfl,_,rfl,sl,_,_,_,rfl,rfl,SqL.of g1,atI_nat (j:=1) rfl,_,rfl,ay,_,_,_,rfl,rfl,SqT.of g2,atI_nat (j:=2) rfl,_,_,rfl,rfl,mulR _ _ (by omega) (by omega),?_⟩
     refine ⟨_,rfl,_,rfl,hl,_,_,_,rfl,rfl,SqL.of g3,atI_nat (j:=1) rfl,_,rfl,ay,_,_,_,rfl,rfl,SqT.of g2,atI_nat (j:=1) rfl,_,_,rfl,rfl,mulL _ _ (by omega) (by omega),_,rfl,_,_,rfl,rfl,mulL _ _ (by omega) (by omega),_,_,rfl,rfl,?_⟩
     exact ⟨_,h5,small1000 (by simp),_,rfl,same_upd s5 hD,upd_same⟩
    ·refine iteT ⟨_,rfl,_,rfl,sl,_,_,_,rfl,rfl,SqL.of g1,atI_nat (j:=2) rfl,_,rfl,ay,_,_,_,rfl,rfl,SqT.of g2,atI_nat (j:=2) rfl,_,_,rfl,rfl,mulR _ _ (by omega) (by omega),?_⟩
     refine ⟨_,rfl,_,rfl,hl,_,_,_,rfl,rfl,SqL.of g3,atI_nat (j:=2) rfl,_,rfl,ay,_,_,_,rfl,rfl,SqT.of g2,atI_nat (j:=1) rfl,_,_,rfl,rfl,mulL _ _ (by omega) (by omega),_,rfl,_,_,rfl,rfl,mulL _ _ (by omega) (by omega),_,_,rfl,rfl,?_⟩
     exact ⟨_,h5,small1000 (by simp),_,rfl,same_upd s5 hD,upd_same⟩
   ·rintro σ' H4 ⟨vk,rfl,s5,h5⟩
    have s25:=s24.trans s5
    refine ⟨_,rfl,_,rfl,ay,_,_,_,rfl,rfl,SqT.of (s5 _ _ hay4),atI_nat (j:=2) rfl,_,_,rfl,rfl,mulR _ _ (by omega) (by omega),?_⟩
    refine ⟨D,t.1,some (.ref ay),some (.ref hl),?_,s25,?_,fun t' ht'=>?_⟩
    ·rw [hA']; rfl
    ·rw [hA']; exact h5
    ·obtain ⟨j,hj⟩:=List.mem_iff_getElem?.mp ht'
     rw [List.getElem?_drop] at hj
     have hjl:=(List.getElem?_eq_some_iff.mp hj).1
     have:=List.pairwise_iff_getElem.mp ok.inc i (i+1+j) hil hjl (by omega)
     rw [(List.getElem?_eq_some_iff.mp t1).2,(List.getElem?_eq_some_iff.mp hj).2] at this
     exact this
  ·rintro σ H2 ⟨sl,bef,vp,vh,rfl,s2,h2,_⟩
   rw [List.take_of_length_le (by omega)] at h2 ⊢
   obtain ⟨av,rfl,hav0⟩:=hv
   have hav:=s2 _ _ hav0
   obtain ⟨c1,c2,c3,c4,c5,c6⟩:=bs
   refine ⟨_,rfl,sl,_,_,_,rfl,rfl,SqL.of h2,atI_nat (j:=2) rfl,_,rfl,rfl,false,(by show V.bl (!decide (V.int (accM ps tri).n = V.int (accM ps tri).b)) = V.bl false; rw [ok.one,decide_eq_true rfl]; rfl),iteF ?_⟩
   refine ⟨_,rfl,sl,_,_,_,rfl,rfl,SqL.of h2,atI_nat (j:=0) rfl,_,rfl,av,_,_,_,rfl,rfl,SqT.of hav,atI_nat (j:=2) rfl,_,_,rfl,rfl,mulR _ _ c5 c6,_,rfl,av,_,_,_,rfl,rfl,SqT.of hav,atI_nat (j:=0) rfl,_,rfl,_,_,rfl,rfl,mulL _ _ c1 c2,rfl,true,(by show V.bl (decide (V.int ((accM ps tri).x * spot.2.2) = V.int (spot.1 * (accM ps tri).b))) = V.bl true; rw [ok.px,decide_eq_true rfl]),iteT ?_⟩
   refine ⟨_,rfl,sl,_,_,_,rfl,rfl,SqL.of h2,atI_nat (j:=1) rfl,_,rfl,av,_,_,_,rfl,rfl,SqT.of hav,atI_nat (j:=2) rfl,_,_,rfl,rfl,mulR _ _ c5 c6,_,rfl,av,_,_,_,rfl,rfl,SqT.of hav,atI_nat (j:=1) rfl,_,rfl,_,_,rfl,rfl,mulL _ _ c3 c4,rfl,?_⟩
   have:Q (.bl (decide (V.int ((accM ps tri).y * spot.2.2) = V.int (spot.2.1 * (accM ps tri).b)))) H2:=by rw [ok.py,decide_eq_true rfl]; exact k H2 s2
   exact this
end
end Toy
set_option maxRecDepth 100000
namespace Toy
open PySem L2 Geo
section
variable {P:Program} {w:World} {K:PySem.W.Frag} {mg:Str→Option Value} {base:Heap}
abbrev n_sIsSpot:List Str:=["found"]
def spIsSpot:Sp:=fun vs H Q _=>∃ v t,vs = [v]∧IsTri H v t∧SpOk t∧∀ H',Same H H'→Q (.bl true) H'
theorem scIsSpot:FnScope n_sIsSpot ["found"] (defScope sIsSpot):=⟨rfl,rfl,rfl,by decide +kernel,rfl,by decide +kernel,by decide +kernel⟩
abbrev c_isx:Scope:={ kind:=.function,names:=[(".0",.local),("number",.local),("_law_whole",.globalImplicit)],isGenerator:=false,isCoroutine:=false }
theorem cs_isx {cdv:Value} {A:Around} {outer:List Env} {s:Shared} {H:Hp} {E:XK} {f:Addr}:CompScope (cxOf CX0 P w K mg base n_sIsSpot "_law_is_spot" (defScope sIsSpot) f cdv A outer s H E).nox c_isx ["number"] [none] where
 kind:=rfl
 nocell:=by decide +kernel
 names:=by decide +kernel
 frees:=by show ∀ z ∈ c_isx.names,z.2 = .free→(defScope sIsSpot).names.lookup z.1 = some .cell; decide +kernel
 nd:=by decide +kernel
 len:=rfl
 cap:=fun i j h=>match i,h with
  | 0,h=>by simp at h
  | n+1,h=>by simp at h
theorem nd_isx:(["number"]:List Str).Nodup:=by decide +kernel
theorem absN (i:Int):(if i < 0 then -i else i) = (i.natAbs:Int):=by split <;> omega
theorem ok_isspot {f g h:Addr} {fd gd hd:FuncData} (F:Fun K "_law_is_spot" "_law_is_spot" sIsSpot f fd) (T:Txt mg)
  (W:FnOk P w K mg base CX0 1 g gd ["found"] spWhole) (bW:Binds K gd ["found"] []) (kW:PySem.W.keepIn K (.ref g) = true) (mW:mg "_law_whole" = some (.ref g))
  (C:FnOk P w K mg base CX0 1 h hd ["one","other"] spGcd) (bC:Binds K hd ["one","other"] []) (kC:PySem.W.keepIn K (.ref h) = true) (mC:mg "_law_common" = some (.ref h)):FnOk P w K mg base CX0 2 f fd ["found"] spIsSpot:=by
 refine F.ok scIsSpot (fun vs H Q E h=>?_) (fun cdv A outer s H vs Q E hr h=>?_)
 ·obtain ⟨v,t,rfl,_⟩:=h; rfl
 ·obtain ⟨v,t,rfl,⟨a,rfl,ha⟩,ok,k⟩:=h
  refine ⟨_,pss_cons (ps_if (PW.pt (pw_or (pt_not (pt_val (pe_callB call_isi rfl T.isinstance PyProof.Rows.boot_isinstance (pa_cons (pv 0) (pa_cons (pe_bltn (v:=.ty "tuple") rfl T.tuple PyProof.Rows.boot_tuple rfl) pa_nil)))))
    (pw_or1 (pt_cmpR op_ne (pe_callB call_len_seq rfl T.len PySem.boot_len (pa_cons (pv 0) pa_nil)) pe_int (nomark _))))) (pss_one (ps_ret pe_bl)) pss_nil)
   (pss_cons (ps_if (PW.pt (pw_or (pt_not (pt_val (pe_callB (call_allL hr.hd) rfl T.all PyProof.Rows.boot_all (pa_cons (pe_comp cs_isx rfl (pi_tup (pv 0)) (fun _ _ _ _ _=>pg_name (i:=0) nd_isx rfl (Or.inl rfl)) (fun _ _ _ _ _=>pif_nil)
     (fun _ _ _ _ _=>pe_call W hr rfl mW kW bW .nil pass0 (pa_cons (pv 0) pa_nil))) pa_nil))))
    (pw_or1 (pt_cmpR op_lt (pe_ix ix_tup (pv 0) pe_int (fun _ _=>rfl)) pe_int (nomark _))))) (pss_one (ps_ret pe_bl)) pss_nil)
   (pss_one (ps_ret (pe_cmpR op_eq (pe_call C hr rfl mC kC bC .nil pass0 (pa_cons (pe_call C hr rfl mC kC bC .nil pass0 (pa_cons (pe_callB call_abs rfl T.abs PyProof.Rows.boot_abs (pa_cons (pe_ix ix_tup (pv 0) pe_int (fun _ _=>rfl)) pa_nil)) (pa_cons (pe_callB call_abs rfl T.abs PyProof.Rows.boot_abs (pa_cons (pe_ix ix_tup (pv 0) pe_int (fun _ _=>rfl)) pa_nil)) pa_nil)))
    (pa_cons (pe_ix ix_tup (pv 0) pe_int (fun _ _=>rfl)) pa_nil))) pe_int (nomark _))))),?_⟩
  refine ⟨_,rfl,_,"tuple","tuple",true,rfl,.inr ⟨rfl,_,SqT.of ha⟩,kit_tup_tup,_,rfl,iteF ?_⟩
  refine ⟨_,rfl,a,_,rfl,.inr (SqT.of ha),rfl,_,rfl,iteF ?_⟩
  refine ⟨_,rfl,a,rfl,⟨_,SqT.of ha⟩,fun D hD=>?_⟩
  have sD:Same H (upd H D (.lst [])):=same_upd (Same.refl H) hD
  refine comp_tup (K:=K) (a:=a) (xs:=[.int t.1,.int t.2.1,.int t.2.2]) (fun j σ' H3=>∃ v bs,σ' = [v]∧Same H H3∧H3 D = some (.lst (bs.map V.bl))∧bs.length = j∧bs.all id = true)
   ⟨none,[],rfl,sD,upd_same,rfl,rfl⟩ (fun j σ' H3 _ ⟨_,_,_,s7,_⟩=>SqT.of (s7 _ _ ha)) ?_ ?_
  ·rintro j x σ' H3 hj ⟨v,bs,rfl,s7,h7,lb,ab⟩
   obtain ⟨z,rfl,hj3⟩:=three_ints hj
   dsimp only [gName,tYes]
   refine iteT ⟨_,rfl,z,rfl,bs.map V.bl,h7,small1000 (by rw [List.length_map]; omega),_,bs++[true],rfl,same_upd s7 hD,?_,by simp [lb],by simp at ab ⊢; exact ab⟩
   rw [upd_same,List.map_append]; rfl
  ·rintro σ' H3 ⟨v,bs,rfl,s7,h7,lb,ab⟩
   refine ⟨D,bs,rfl,SqL.of h7,true,(by rw [ab]),iteF ?_⟩
   have ha3:=s7 _ _ ha
   refine ⟨_,rfl,a,_,_,_,rfl,rfl,SqT.of ha3,atI_nat (j:=2) rfl,_,_,rfl,rfl,false,(by show V.bl (decide (t.2.2 < 1)) = V.bl false; rw [decide_eq_false (by have:=ok.pos; omega)]),iteF ?_⟩
   refine ⟨_,rfl,a,_,_,_,rfl,rfl,SqT.of ha3,atI_nat (j:=0) rfl,_,rfl,_,rfl,a,_,_,_,rfl,rfl,SqT.of ha3,atI_nat (j:=1) rfl,_,rfl,(t.1.natAbs:Int),(t.2.1.natAbs:Int),by rw [absN,absN]; rfl,by omega,by omega,?_⟩
   refine ⟨_,rfl,a,_,_,_,rfl,rfl,SqT.of ha3,atI_nat (j:=2) rfl,((Int.gcd (t.1.natAbs:Int) (t.2.1.natAbs:Int):Nat):Int),t.2.2,rfl,by omega,by have:=ok.pos; omega,rfl,?_⟩
   have e:Int.gcd ((Int.gcd (t.1.natAbs:Int) (t.2.1.natAbs:Int):Nat):Int) t.2.2 = 1:=by
    have:=ok.low
    unfold gcd3 at this
    rw [← this]
    simp only [Int.gcd,Int.natAbs_natCast]
   rw [e]
   exact k H3 s7
end
end Toy
set_option maxRecDepth 100000
namespace Toy
open PySem L2 Geo PySem.Spec PyProof.Rows PySem.W
section
variable {A:Around} {s:Shared}
theorem eq_same {a b:Addr} {us vs:List Value} {ps:List Pt} (hu:A.units+1 < cLine) (ha:s.heap.IsList a us.toArray) (hb:s.heap.IsList b vs.toArray) (x:Paired (TupAt s.heap) us ps) (y:Paired (TupAt s.heap) vs ps):SeqAt.EqAt A s (.ref a) (.ref b) true:=by
 by_cases e:a = b
 ·subst e; exact SeqAt.EqAt.same _
 ·have:=rc_pts hu ha hb x y
  rw [decide_eq_true rfl] at this
  exact SeqAt.EqAt.of_refs e this
theorem rc_two {a b a1 a2 b1 b2:Addr} (hu:A.units < cLine) (ha:s.heap.IsList a #[.ref a1,.ref a2]) (hb:s.heap.IsList b #[.ref b1,.ref b2]) (e1:SeqAt.EqAt A.in1 s (.ref a1) (.ref b1) true) (e2:SeqAt.EqAt A.in1 s (.ref a2) (.ref b2) true):SeqAt.RcAt A s (.ref a) (.ref b) true :=
 SeqAt.RcAt.lists (e:=fun _=>true) ha hb rfl hu fun j h1 h2=>match j,h1,h2 with
  | 0,_,_=>e1
  | 1,_,_=>e2
theorem rcNe_two {a b a1 a2 b1 b2:Addr} (hu:A.units < cLine) (ha:s.heap.IsList a #[.ref a1,.ref a2]) (hb:s.heap.IsList b #[.ref b1,.ref b2]) (e1:SeqAt.EqAt A.in1 s (.ref a1) (.ref b1) true) (e2:SeqAt.EqAt A.in1 s (.ref a2) (.ref b2) true):SeqAt.RcNeAt A s (.ref a) (.ref b) false :=
 SeqAt.RcNeAt.lists (e:=fun _=>true) ha hb rfl hu fun j h1 h2=>match j,h1,h2 with
  | 0,_,_=>e1
  | 1,_,_=>e2
end
section
variable {X:Cx}
def rTwo (K:PySem.W.Frag) (v:Bool):R2:=fun x y H Q=>∃ a b a1 a2 b1 b2 xs1 xs2 ys1 ys2 ps qs,x = .ref a∧y = .ref b∧SqL K H a [.ref a1,.ref a2]∧SqL K H b [.ref b1,.ref b2]∧SqL K H a1 xs1∧SqL K H a2 xs2∧SqL K H b1 ys1∧SqL K H b2 ys2 ∧
 ArePts H xs1 ps∧ArePts H xs2 qs∧ArePts H ys1 ps∧ArePts H ys2 qs∧Q (.bl v) H
theorem two_refs {a1 a2:Addr} {us:List Value} (r:Vals [.ref a1,.ref a2] us):us.toArray = #[.ref a1,.ref a2]:=by
 cases r with
 | cons r1 r =>
  cases r with
  | cons r2 r =>
   cases r
   obtain rfl:=r1
   obtain rfl:=r2
   rfl
theorem op_eqTwo (hu:X.A.units+16 < cLine):OpR X (compareOp .Eq) (rTwo X.K true):=by
 intro pins s σ H x y v u Q I rx ry h
 obtain ⟨a,b,a1,a2,b1,b2,xs1,xs2,ys1,ys2,ps,qs,rfl,rfl,ha,hb,h1,h2,h3,h4,p1,p2,p3,p4,k⟩:=h
 obtain rfl:=rx
 obtain rfl:=ry
 obtain ⟨us,r,l,_⟩:=I.list ha
 obtain ⟨vs,r',l',_⟩:=I.list hb
 obtain ⟨u1,r1,l1,_⟩:=I.list h1
 obtain ⟨u2,r2,l2,_⟩:=I.list h2
 obtain ⟨u3,r3,l3,_⟩:=I.list h3
 obtain ⟨u4,r4,l4,_⟩:=I.list h4
 have la:=l.isList
 have lb:=l'.isList
 rw [two_refs r] at la
 rw [two_refs r'] at lb
 exact rc_two (by omega) la lb (eq_same (by show X.A.units+1+1 < cLine; omega) l1.isList l3.isList (I.tupsAt r1 p1) (I.tupsAt r3 p3)) (eq_same (by show X.A.units+1+1 < cLine; omega) l2.isList l4.isList (I.tupsAt r2 p2) (I.tupsAt r4 p4)) X.prog X.w X.xe _ ⟨.bl _,H,I,rfl,k⟩
theorem op_neTwo (hu:X.A.units+16 < cLine):OpR X (compareOp .NotEq) (rTwo X.K false):=by
 intro pins s σ H x y v u Q I rx ry h
 obtain ⟨a,b,a1,a2,b1,b2,xs1,xs2,ys1,ys2,ps,qs,rfl,rfl,ha,hb,h1,h2,h3,h4,p1,p2,p3,p4,k⟩:=h
 obtain rfl:=rx
 obtain rfl:=ry
 obtain ⟨us,r,l,_⟩:=I.list ha
 obtain ⟨vs,r',l',_⟩:=I.list hb
 obtain ⟨u1,r1,l1,_⟩:=I.list h1
 obtain ⟨u2,r2,l2,_⟩:=I.list h2
 obtain ⟨u3,r3,l3,_⟩:=I.list h3
 obtain ⟨u4,r4,l4,_⟩:=I.list h4
 have la:=l.isList
 have lb:=l'.isList
 rw [two_refs r] at la
 rw [two_refs r'] at lb
 exact rcNe_two (by omega) la lb (eq_same (by show X.A.units+1+1 < cLine; omega) l1.isList l3.isList (I.tupsAt r1 p1) (I.tupsAt r3 p3)) (eq_same (by show X.A.units+1+1 < cLine; omega) l2.isList l4.isList (I.tupsAt r2 p2) (I.tupsAt r4 p4)) X.prog X.w X.xe _ ⟨.bl _,H,I,rfl,k⟩
end
end Toy
set_option maxRecDepth 100000
namespace Toy
open PySem L2 Geo
section
variable {P:Program} {w:World} {K:PySem.W.Frag} {mg:Str→Option Value} {base:Heap}
abbrev n_sShown:List Str:=["found","ones","others","left"]
def Told (H:Hp) (fa:Addr) (A B:List Pt):Prop :=
 (∃ t l,H fa = some (.tup [.str "line",.ref t])∧IsTri H (.ref t) l∧LineOk A B l) ∨
 (∃ t w1 w2 l1 l2 tr1 tr2 sp,H fa = some (.tup [.str "spot",.ref t,.ref w1,.ref w2])∧IsTri H (.ref t) sp∧H w1 = some (.lst l1)∧AreTri H l1 tr1∧H w2 = some (.lst l2)∧AreTri H l2 tr2∧SpOk sp∧SpB sp∧WOk A tr1 sp∧WOk B tr2 sp)
theorem SpB.bs {t:Tri} (h:SpB t):Bs t:=by unfold SpB at h; unfold Bs; omega
def spShown (K:PySem.W.Frag):Sp:=fun vs H Q _=>∃ fa a xs A b ys B,vs = [.ref fa,.ref a,.ref b]∧SqL K H a xs∧ArePts H xs A∧SqL K H b ys∧ArePts H ys B∧A.length≤12∧B.length≤12∧(∀ q ∈ A,Bd q)∧(∀ q ∈ B,Bd q)∧Told H fa A B∧∀ H',Same H H'→Q (.bl true) H'
theorem scShown:FnScope n_sShown ["found","ones","others"] (defScope sShown):=⟨rfl,rfl,rfl,by decide +kernel,rfl,by decide +kernel,by decide +kernel⟩
abbrev c_shl:Scope:={ kind:=.function,names:=[(".0",.local),("point",.local),("_law_at",.globalImplicit),("found",.free)],isGenerator:=false,isCoroutine:=false }
theorem cs_shl {cdv:Value} {A:Around} {outer:List Env} {s:Shared} {H:Hp} {E:XK} {f:Addr}:CompScope (cxOf CX0 P w K mg base n_sShown "_law_shown" (defScope sShown) f cdv A outer s H E).nox c_shl ["point","found"] [none,some 0] where
 kind:=rfl
 nocell:=by decide +kernel
 names:=by decide +kernel
 frees:=by show ∀ z ∈ c_shl.names,z.2 = .free→(defScope sShown).names.lookup z.1 = some .cell; decide +kernel
 nd:=by decide +kernel
 len:=rfl
 cap:=fun i j h=>match i,h with
  | 0,h=>by simp at h
  | 1,h=>by
   simp at h; subst h
   exact ⟨"found",rfl,rfl,by decide +kernel,rfl,.inl rfl⟩
  | n+2,h=>by simp at h
theorem nd_shl:(["point","found"]:List Str).Nodup:=by decide +kernel
abbrev c_sho:Scope:={ kind:=.function,names:=[(".0",.local),("point",.local),("_law_at",.globalImplicit),("found",.free)],isGenerator:=false,isCoroutine:=false }
theorem cs_sho {cdv:Value} {A:Around} {outer:List Env} {s:Shared} {H:Hp} {E:XK} {f:Addr}:CompScope (cxOf CX0 P w K mg base n_sShown "_law_shown" (defScope sShown) f cdv A outer s H E).nox c_sho ["point","found"] [none,some 0] where
 kind:=rfl
 nocell:=by decide +kernel
 names:=by decide +kernel
 frees:=by show ∀ z ∈ c_sho.names,z.2 = .free→(defScope sShown).names.lookup z.1 = some .cell; decide +kernel
 nd:=by decide +kernel
 len:=rfl
 cap:=fun i j h=>match i,h with
  | 0,h=>by simp at h
  | 1,h=>by
   simp at h; subst h
   exact ⟨"found",rfl,rfl,by decide +kernel,rfl,.inl rfl⟩
  | n+2,h=>by simp at h
theorem nd_sho:(["point","found"]:List Str).Nodup:=by decide +kernel
theorem line_spot:¬ (V.str "line" = V.str "spot"):=by intro e; injection e with e; exact absurd e (by decide +kernel)
theorem spot_line:¬ (V.str "spot" = V.str "line"):=fun e=>line_spot e.symm
theorem ok_shown {f g1 g2 g3 g4:Addr} {fd d1 d2 d3 d4:FuncData} (F:Fun K "_law_shown" "_law_shown" sShown f fd) (T:Txt mg)
  (W:FnOk P w K mg base CX0 3 g1 d1 ["points","found","spot"] (spWeighs K)) (b1:Binds K d1 ["points","found","spot"] []) (k1:PySem.W.keepIn K (.ref g1) = true) (m1:mg "_law_weighs" = some (.ref g1))
  (IS:FnOk P w K mg base CX0 2 g2 d2 ["found"] spIsSpot) (b2:Binds K d2 ["found"] []) (k2:PySem.W.keepIn K (.ref g2) = true) (m2:mg "_law_is_spot" = some (.ref g2))
  (L:FnOk P w K mg base CX0 2 g3 d3 ["found"] spIsLine) (b3:Binds K d3 ["found"] []) (k3:PySem.W.keepIn K (.ref g3) = true) (m3:mg "_law_is_line" = some (.ref g3))
  (AT:FnOk P w K mg base CX0 1 g4 d4 ["line","point"] (spWorth K)) (b4:Binds K d4 ["line","point"] []) (k4:PySem.W.keepIn K (.ref g4) = true) (m4:mg "_law_at" = some (.ref g4)) :
  FnOk P w K mg base CX0 4 f fd ["found","ones","others"] (spShown K):=by
 refine F.ok scShown (fun vs H Q E h=>?_) (fun cdv A' outer s H vs Q E hr h=>?_)
 ·obtain ⟨fa,a,xs,A,b,ys,B,rfl,_⟩:=h; rfl
 ·obtain ⟨fa,a,xs,A,b,ys,B,rfl,ha,hx,hb,hy,lA,lB,bA,bB,told,k⟩:=h
  have hu:(A'.deeper (PyProof.Rows.envOfC "_law_shown" (defScope sShown) s.heap.objs.size f cdv)).units+16 < cLine:=by have:=hr.units; omega
  refine ⟨_,pss_cons (ps_if (PW.pt (pw_or (pt_not (pt_val (pe_callB call_isi rfl T.isinstance PyProof.Rows.boot_isinstance (pa_cons (pv 0) (pa_cons (pe_bltn (v:=.ty "tuple") rfl T.tuple PyProof.Rows.boot_tuple rfl) pa_nil)))))
    (pw_or1 (pt_cmpR op_lt (pe_callB call_len_seq rfl T.len PySem.boot_len (pa_cons (pv 0) pa_nil)) pe_int (nomark _))))) (pss_one (ps_ret pe_bl)) pss_nil)
   (pss_cons (ps_if (PW.pt (pw_and (pt_cmpR op_eq (pe_ix ix_tup (pv 0) pe_int (fun _ _=>rfl)) pe_str (nomark _)) (pw_and (pt_cmpR op_eq (pe_callB call_len_seq rfl T.len PySem.boot_len (pa_cons (pv 0) pa_nil)) pe_int (nomark _)) (pw_and1 (pt_val (pe_call L (hr.mono (by decide)) rfl m3 k3 b3 .nil pass0 (pa_cons (pe_ix ix_tup (pv 0) pe_int (fun _ _=>rfl)) pa_nil)))))))
    (pss_cons (ps_setC (i:=3) scShown.nd rfl rfl cs_shl rfl (pi_list (pv 1)) (fun _ _ _ _ _=>pg_name (i:=0) nd_shl rfl (Or.inl rfl)) (fun _ _ _ _ _=>pif_one (pt_cmpR op_le (pe_call AT (hr.mono (by decide)) rfl m4 k4 b4 .nil pass0 (pa_cons (pe_ix (ixt (K':=K) rfl) (pv 1) pe_int (fun _ _=>rfl)) (pa_cons (pv 0) pa_nil))) pe_int (nomark _))) (fun _ _ _ _ _=>pv 0) rfl)
     (pss_one (ps_ret (pe_and (pe_cmpR (op_eqPs hu) (pv 3) (pe_lst pa_nil) (nomark _)) (pe_one (pe_cmpR (op_eqPs hu) (pe_comp cs_sho rfl (pi_list (pv 2)) (fun _ _ _ _ _=>pg_name (i:=0) nd_sho rfl (Or.inl rfl)) (fun _ _ _ _ _=>pif_one (pt_cmpR op_ge (pe_call AT (hr.mono (by decide)) rfl m4 k4 b4 .nil pass0 (pa_cons (pe_ix (ixt (K':=K) rfl) (pv 1) pe_int (fun _ _=>rfl)) (pa_cons (pv 0) pa_nil))) pe_int (nomark _))) (fun _ _ _ _ _=>pv 0)) (pe_lst pa_nil) (nomark _))))))) pss_nil)
   (pss_cons (ps_if (PW.pt (pw_or (pt_cmpR op_ne (pe_ix ix_tup (pv 0) pe_int (fun _ _=>rfl)) pe_str (nomark _)) (pw_or (pt_cmpR op_ne (pe_callB call_len_seq rfl T.len PySem.boot_len (pa_cons (pv 0) pa_nil)) pe_int (nomark _)) (pw_or1 (pt_not (pt_val (pe_call IS (hr.mono (by decide)) rfl m2 k2 b2 .nil pass0 (pa_cons (pe_ix ix_tup (pv 0) pe_int (fun _ _=>rfl)) pa_nil)))))))) (pss_one (ps_ret pe_bl)) pss_nil)
   (pss_one (ps_ret (pe_and (pe_call W hr rfl m1 k1 b1 .nil pass0 (pa_cons (pv 1) (pa_cons (pe_ix ix_tup (pv 0) pe_int (fun _ _=>rfl)) (pa_cons (pe_ix ix_tup (pv 0) pe_int (fun _ _=>rfl)) pa_nil)))) (pe_one (pe_call W hr rfl m1 k1 b1 .nil pass0 (pa_cons (pv 2) (pa_cons (pe_ix ix_tup (pv 0) pe_int (fun _ _=>rfl)) (pa_cons (pe_ix ix_tup (pv 0) pe_int (fun _ _=>rfl)) pa_nil)))))))))),?_⟩
  rcases told with ⟨t,l,hf,hl,lo⟩ | ⟨t,w1,w2,l1,l2,tr1,tr2,sp,hf,ht,hw1,tw1,hw2,tw2,ok,sb,o1,o2⟩
  ·refine ⟨_,rfl,_,"tuple","tuple",true,rfl,.inr ⟨rfl,_,SqT.of hf⟩,kit_tup_tup,_,rfl,iteF ?_⟩
   refine ⟨_,rfl,fa,_,rfl,.inr (SqT.of hf),_,_,rfl,rfl,false,rfl,iteF ?_⟩
   refine ⟨_,rfl,fa,_,_,_,rfl,rfl,SqT.of hf,atI_nat (j:=0) rfl,rfl,true,(by show V.bl (decide (V.str "line" = V.str "line")) = V.bl true; rw [decide_eq_true rfl]),iteT ?_⟩
   refine ⟨_,rfl,fa,_,rfl,.inr (SqT.of hf),rfl,true,rfl,iteT ?_⟩
   refine ⟨_,rfl,fa,_,_,_,rfl,rfl,SqT.of hf,atI_nat (j:=1) rfl,.ref t,l,rfl,hl,fun H1 s1=>⟨_,rfl,iteT ?_⟩⟩
   refine ⟨_,rfl,a,rfl,⟨_,s1.seq ha⟩,fun D hD=>?_⟩
   refine comp_list (K:=K) (a:=a) (xs:=xs) (fun j σ' H'=>∃ v1,σ' = [v1,some (.ref fa)]∧Same H1 H'∧H' D = some (.lst [])) ⟨none,rfl,same_upd (Same.refl H1) hD,upd_same⟩ (fun j σ' H' _ ⟨_,_,s4,_⟩=>s4.seq (s1.seq ha)) ?_ ?_
   ·rintro j x σ' H' hj ⟨v1,rfl,s4,h4⟩
    obtain ⟨q,q1,q2⟩:=Pair.get hx hj
    have s14:=s1.trans s4
    have mq:=List.mem_of_getElem? q1
    dsimp only [gName]
    refine ⟨_,rfl,fa,_,_,_,rfl,rfl,SqT.of (s14 _ _ hf),atI_nat (j:=1) rfl,_,rfl,.ref t,x,l,q,rfl,hl.same s14,(q2.same s14).k,(bA q mq).w,_,_,rfl,rfl,false,?_,iteF ⟨_,rfl,s4,h4⟩⟩
    show V.bl (decide (wrt l q≤0)) = V.bl false
    have:=lo.pos q mq
    rw [decide_eq_false (by omega)]
   ·rintro σ' H2 ⟨v1,rfl,s4,h4⟩
    have s12:=s1.trans s4
    refine ⟨_,rfl,(by show 0≤sizeLine; decide),fun e1 ne1=>?_⟩
    have s5:=same_upd (o:=.lst []) (Same.refl H2) ne1
    refine ⟨D,e1,[],[],[],[],rfl,rfl,SqL.of (s5 _ _ h4),SqL.of upd_same,.nil,.nil,true,(by show V.bl (decide (([]:List Pt) = [])) = V.bl true; rw [decide_eq_true rfl]),iteT ?_⟩
    have s15:=s12.trans s5
    have hb5:=s15.seq hb
    have hf5:=s15 _ _ hf
    have hl5:=hl.same s15
    have hy5:=hy.same s15
    generalize upd H2 e1 (.lst []) = H3 at s5 s15 hb5 hf5 hl5 hy5
    refine ⟨_,rfl,b,rfl,⟨_,hb5⟩,fun D2 hD2=>?_⟩
    refine comp_list (K:=K) (a:=b) (xs:=ys) (fun j σ' H'=>∃ v1,σ' = [v1,some (.ref fa)]∧Same H3 H'∧H' D2 = some (.lst [])) ⟨none,rfl,same_upd (Same.refl H3) hD2,upd_same⟩ (fun j σ' H' _ ⟨_,_,s4,_⟩=>s4.seq hb5) ?_ ?_
    ·rintro j x σ' H' hj ⟨v1,rfl,s6,h6⟩
     obtain ⟨q,q1,q2⟩:=Pair.get hy5 hj
     have mq:=List.mem_of_getElem? q1
     dsimp only [gName]
     refine ⟨_,rfl,fa,_,_,_,rfl,rfl,SqT.of (s6 _ _ hf5),atI_nat (j:=1) rfl,_,rfl,.ref t,x,l,q,rfl,hl5.same s6,(q2.same s6).k,(bB q mq).w,_,_,rfl,rfl,false,?_,iteF ⟨_,rfl,s6,h6⟩⟩
     show V.bl (decide (wrt l q ≥ 0)) = V.bl false
     have:=lo.neg q mq
     rw [decide_eq_false (by omega)]
    ·rintro σ' H6 ⟨v1,rfl,s6,h6⟩
     refine ⟨(by show 0≤sizeLine; decide),fun e2 ne2=>?_⟩
     have s7:=same_upd (o:=.lst []) (Same.refl H6) ne2
     refine ⟨D2,e2,[],[],[],[],rfl,rfl,SqL.of (s7 _ _ h6),SqL.of upd_same,.nil,.nil,?_⟩
     have e:decide (([]:List Pt) = []) = true:=decide_eq_true rfl
     show Q (.bl (decide (([]:List Pt) = []))) _
     rw [e]
     exact k _ (s15.trans (s6.trans s7))
  ·refine ⟨_,rfl,_,"tuple","tuple",true,rfl,.inr ⟨rfl,_,SqT.of hf⟩,kit_tup_tup,_,rfl,iteF ?_⟩
   refine ⟨_,rfl,fa,_,rfl,.inr (SqT.of hf),_,_,rfl,rfl,false,rfl,iteF ?_⟩
   refine ⟨_,rfl,fa,_,_,_,rfl,rfl,SqT.of hf,atI_nat (j:=0) rfl,rfl,false,(by show V.bl (decide (V.str "spot" = V.str "line")) = V.bl false; rw [decide_eq_false spot_line]),iteF (iteF ?_)⟩
   refine ⟨_,rfl,fa,_,_,_,rfl,rfl,SqT.of hf,atI_nat (j:=0) rfl,rfl,false,(by show V.bl (!decide (V.str "spot" = V.str "spot")) = V.bl false; rw [decide_eq_true rfl]; rfl),iteF ?_⟩
   refine ⟨_,rfl,fa,_,rfl,.inr (SqT.of hf),rfl,_,rfl,iteF ?_⟩
   refine ⟨_,rfl,fa,_,_,_,rfl,rfl,SqT.of hf,atI_nat (j:=1) rfl,.ref t,sp,rfl,ht,ok,fun H1 s1=>⟨_,rfl,iteF ?_⟩⟩
   have hf1:=s1 _ _ hf
   refine ⟨_,rfl,_,rfl,fa,_,_,_,rfl,rfl,SqT.of hf1,atI_nat (j:=2) rfl,_,rfl,fa,_,_,_,rfl,rfl,SqT.of hf1,atI_nat (j:=1) rfl,a,xs,A,w1,l1,tr1,.ref t,sp,rfl,s1.seq ha,hx.same s1,bA,by omega,SqL.of (s1 _ _ hw1),tw1.same s1,ht.same s1,sb.bs,o1,fun H2 s2=>⟨_,rfl,iteT ?_⟩⟩
   have s12:=s1.trans s2
   have hf2:=s12 _ _ hf
   exact ⟨_,rfl,_,rfl,fa,_,_,_,rfl,rfl,SqT.of hf2,atI_nat (j:=3) rfl,_,rfl,fa,_,_,_,rfl,rfl,SqT.of hf2,atI_nat (j:=1) rfl,b,ys,B,w2,l2,tr2,.ref t,sp,rfl,s12.seq hb,hy.same s12,bB,by omega,SqL.of (s12 _ _ hw2),tw2.same s12,ht.same s12,sb.bs,o2,fun H3 s3=>k H3 (s12.trans s3)⟩
def spLaw (K:PySem.W.Frag):Sp:=fun vs H Q _=>∃ (a:Addr) (ns:List Int),vs = [.ref a]∧SqL K H a (ns.map V.int)∧ns.length≤63∧∀ H',Q (.bl true) H'
abbrev n_sLaw:List Str:=["script","most","ones","others","aside","handed","found"]
theorem scL:FnScope n_sLaw ["script"] (defScope sLaw):=⟨rfl,rfl,rfl,by decide +kernel,rfl,by decide +kernel,by decide +kernel⟩
abbrev c_lot:Scope:={ kind:=.function,names:=[(".0",.local),("point",.local),("max",.globalImplicit),("min",.globalImplicit),("aside",.free)],isGenerator:=false,isCoroutine:=false }
theorem cs_lot {cdv:Value} {A:Around} {outer:List Env} {s:Shared} {H:Hp} {E:XK} {f:Addr}:CompScope (cxOf CX0 P w K mg base n_sLaw "law" (defScope sLaw) f cdv A outer s H E).nox c_lot ["point","aside"] [none,some 4] where
 kind:=rfl
 nocell:=by decide +kernel
 names:=by decide +kernel
 frees:=by show ∀ z ∈ c_lot.names,z.2 = .free→(defScope sLaw).names.lookup z.1 = some .cell; decide +kernel
 nd:=by decide +kernel
 len:=rfl
 cap:=fun i j h=>match i,h with
  | 0,h=>by simp at h
  | 1,h=>by
   simp at h; subst h
   exact ⟨"aside",rfl,rfl,by decide +kernel,rfl,.inl rfl⟩
  | n+2,h=>by simp at h
theorem nd_lot:(["point","aside"]:List Str).Nodup:=by decide +kernel
theorem mul144 {m n:Nat} (h1:m≤12) (h2:n≤12):m * n≤144:=Nat.mul_le_mul h1 h2
def clampI (z:Int):Int:=if (if z < 1000 then z else 1000) > -1000 then (if z < 1000 then z else 1000) else -1000
theorem clampI_bd (z:Int):-1000≤clampI z∧clampI z≤1000:=by unfold clampI; split <;> split at * <;> omega
theorem ok_law {f g1 g2 g3 g4 g5:Addr} {fd d1 d2 d3 d4 d5:FuncData} (F:Fun K "law" "law" sLaw f fd) (T:Txt mg)
  (N:FnOk P w K mg base CX0 2 g1 d1 ["script","at","most"] (spPts K)) (b1:Binds K d1 ["script","at","most"] []) (k1:PySem.W.keepIn K (.ref g1) = true) (m1:mg "_law_points" = some (.ref g1))
  (C:FnOk P w K mg base CX0 1 g2 d2 ["script","k"] (spCell K)) (b2:Binds K d2 ["script","k"] []) (k2:PySem.W.keepIn K (.ref g2) = true) (m2:mg "_law_cell_at" = some (.ref g2))
  (PT:FnOk P w K mg base CX0 5 g3 d3 ["ones","others"] (spLS K)) (b3:Binds K d3 ["ones","others"] []) (k3:PySem.W.keepIn K (.ref g3) = true) (m3:mg "parted" = some (.ref g3))
  (S:FnOk P w K mg base CX0 4 g4 d4 ["found","ones","others"] (spShown K)) (b4:Binds K d4 ["found","ones","others"] []) (k4:PySem.W.keepIn K (.ref g4) = true) (m4:mg "_law_shown" = some (.ref g4))
  (W:FnOk P w K mg base CX0 3 g5 d5 ["points","found","spot"] (spWeighs K)) (b5:Binds K d5 ["points","found","spot"] []) (k5:PySem.W.keepIn K (.ref g5) = true) (m5:mg "_law_weighs" = some (.ref g5)) :
  FnOk P w K mg base CX0 6 f fd ["script"] (spLaw K):=by
 refine F.ok scL (fun vs H Q E h=>?_) (fun cdv A' outer s H vs Q E hr h=>?_)
 ·obtain ⟨a,ns,rfl,_⟩:=h; rfl
 ·obtain ⟨a,ns,rfl,hq,hl,k⟩:=h
  have hu:(A'.deeper (PyProof.Rows.envOfC "law" (defScope sLaw) s.heap.objs.size f cdv)).units+16 < cLine:=by have:=hr.units; omega
  have hr4:Room 4 _:=hr.mono (by decide)
  have hr3:Room 3 _:=hr.mono (by decide)
  have hr2:Room 2 _:=hr.mono (by decide)
  have hr1:Room 1 _:=hr.mono (by decide)
  have LAST:∃ t,PSs (cxOf CX0 P w K mg base n_sLaw "law" (defScope sLaw) f cdv A' outer s H E).nox (List.drop 8 (defBody sLaw)) t ∧
    ∀ (H1:Hp) (r q hd c1 c2:Addr) (xs ys:List V) (A B:List Pt) (v1 v4 v6:Option V),H1 r = some (.lst xs)→H1 q = some (.lst ys)→H1 hd = some (.lst [.ref c1,.ref c2])→H1 c1 = some (.lst xs)→H1 c2 = some (.lst ys)→ArePts H1 xs A→ArePts H1 ys B→A.length≤12→B.length≤12→(∀ p ∈ A,Bd p)→(∀ p ∈ B,Bd p) →
     t { nx:=fun _ H'=>Q .non H',rt:=Q } [some (.ref a),v1,some (.ref r),some (.ref q),v4,some (.ref hd),v6] H1:=by
   refine ⟨_,pss_one (ps_ret (pe_and (pe_call S hr4 rfl m4 k4 b4 .nil pass0 (pa_cons (pe_call PT hr rfl m3 k3 b3 .nil pass0 (pa_cons (pe_ix ix_list (pv 5) pe_int (fun _ _=>rfl)) (pa_cons (pe_ix ix_list (pv 5) pe_int (fun _ _=>rfl)) pa_nil))) (pa_cons (pv 2) (pa_cons (pv 3) pa_nil)))) (pe_one (pe_cmpR (op_eqTwo hu) (pv 5) (pe_lst (pa_cons (pv 2) (pa_cons (pv 3) pa_nil))) (nomark _))))),?_⟩
   intro H1 r q hd c1 c2 xs ys A B v1 v4 v6 gr gq gh g1 g2 pA pB lA lB bA bB
   refine ⟨_,rfl,hd,_,_,_,rfl,rfl,SqL.of gh,atI_nat (j:=0) rfl,_,rfl,hd,_,_,_,rfl,rfl,SqL.of gh,atI_nat (j:=1) rfl,c1,xs,A,c2,ys,B,rfl,SqL.of g1,pA,SqL.of g2,pB,bA,bB,mul144 lA lB,lA,lB,fun r6 t l H6 n6 s6 h6 it lo=>?_,fun r6 t w1 w2 l1 l2 tr1 tr2 sp H6 n6 nw1 nw2 nww s6 h6 it hw1 tw1 hw2 tw2 ok sb o1 o2 i1 i2=>?_⟩
   ·refine ⟨_,rfl,_,rfl,r6,r,xs,A,q,ys,B,rfl,SqL.of (s6 _ _ gr),pA.same s6,SqL.of (s6 _ _ gq),pB.same s6,lA,lB,bA,bB,.inl ⟨t,l,h6,it,lo⟩,fun H7 s7=>⟨_,rfl,iteT ?_⟩⟩
    have s17:=s6.trans s7
    refine ⟨_,rfl,_,rfl,_,rfl,(by show 2≤sizeLine; decide),fun e8 ne8=>?_⟩
    have s8:=s17.trans (same_upd (o:=.lst [.ref r,.ref q]) (Same.refl H7) ne8)
    exact ⟨hd,e8,c1,c2,r,q,xs,ys,xs,ys,A,B,rfl,rfl,SqL.of (s8 _ _ gh),SqL.of upd_same,SqL.of (s8 _ _ g1),SqL.of (s8 _ _ g2),SqL.of (s8 _ _ gr),SqL.of (s8 _ _ gq),pA.same s8,pB.same s8,pA.same s8,pB.same s8,k _⟩
   ·refine ⟨_,rfl,_,rfl,r6,r,xs,A,q,ys,B,rfl,SqL.of (s6 _ _ gr),pA.same s6,SqL.of (s6 _ _ gq),pB.same s6,lA,lB,bA,bB,.inr ⟨t,w1,w2,l1,l2,tr1,tr2,sp,h6,it,hw1,tw1,hw2,tw2,ok,sb,o1,o2⟩,fun H7 s7=>⟨_,rfl,iteT ?_⟩⟩
    have s17:=s6.trans s7
    refine ⟨_,rfl,_,rfl,_,rfl,(by show 2≤sizeLine; decide),fun e8 ne8=>?_⟩
    have s8:=s17.trans (same_upd (o:=.lst [.ref r,.ref q]) (Same.refl H7) ne8)
    exact ⟨hd,e8,c1,c2,r,q,xs,ys,xs,ys,A,B,rfl,rfl,SqL.of (s8 _ _ gh),SqL.of upd_same,SqL.of (s8 _ _ g1),SqL.of (s8 _ _ g2),SqL.of (s8 _ _ gr),SqL.of (s8 _ _ gq),pA.same s8,pB.same s8,pA.same s8,pB.same s8,k _⟩
  obtain ⟨tL,hL,last⟩:=LAST
  have REST:∃ t,PSs (cxOf CX0 P w K mg base n_sLaw "law" (defScope sLaw) f cdv A' outer s H E).nox (List.drop 4 (defBody sLaw)) t ∧
    ∀ (H1:Hp) (r q:Addr) (xs ys:List V) (A B:List Pt) (v1 v4:Option V),H1 r = some (.lst xs)→H1 q = some (.lst ys)→ArePts H1 xs A→ArePts H1 ys B→A.length≤12→B.length≤12→(∀ p ∈ A,Bd p)→(∀ p ∈ B,Bd p) →
     t { nx:=fun _ H'=>Q .non H',rt:=Q } [some (.ref a),v1,some (.ref r),some (.ref q),v4,none,none] H1:=by
   refine ⟨_,pss_cons (ps_set (i:=5) scL.nd rfl (Or.inl rfl) (pe_lst (pa_cons (pe_callTy call_list_of rfl T.list PyProof.Rows.boot_list (pa_cons (pv 2) pa_nil)) (pa_cons (pe_callTy call_list_of rfl T.list PyProof.Rows.boot_list (pa_cons (pv 3) pa_nil)) pa_nil))))
    (pss_cons (ps_set (i:=6) scL.nd rfl (Or.inl rfl) (pe_call PT hr rfl m3 k3 b3 .nil pass0 (pa_cons (pe_ix ix_list (pv 5) pe_int (fun _ _=>rfl)) (pa_cons (pe_ix ix_list (pv 5) pe_int (fun _ _=>rfl)) pa_nil))))
    (pss_cons (ps_if (PW.pt (pw_or (pt_not (pt_val (pe_call S hr4 rfl m4 k4 b4 .nil pass0 (pa_cons (pv 6) (pa_cons (pv 2) (pa_cons (pv 3) pa_nil)))))) (pw_or1 (pt_cmpR (op_neTwo hu) (pv 5) (pe_lst (pa_cons (pv 2) (pa_cons (pv 3) pa_nil))) (nomark _))))) (pss_one (ps_ret pe_bl)) pss_nil)
    (pss_cons (ps_if (pt_cmpR op_eq (pe_ix ix_tup (pv 6) pe_int (fun _ _=>rfl)) pe_str (nomark _))
     (pss_cons (ps_expr (pe_bm PySem.F.plainAttrs_list PySem.F.slot_list_append PySem.F.type_list_append mt_append (pe_ix ix_tup (pv 6) pe_int (fun _ _=>rfl)) (pa_cons (pe_tup (pa_cons pe_int (pa_cons pe_int (pa_cons pe_int pa_nil)))) pa_nil)))
     (pss_cons (ps_if (pt_not (pt_val (pe_call W hr3 rfl m5 k5 b5 .nil pass0 (pa_cons (pv 3) (pa_cons (pe_ix ix_tup (pv 6) pe_int (fun _ _=>rfl)) (pa_cons (pe_ix ix_tup (pv 6) pe_int (fun _ _=>rfl)) pa_nil)))))) (pss_one (ps_ret pe_bl)) pss_nil)
     (pss_one (ps_expr (pe_bm PySem.F.plainAttrs_list PySem.F.slot_list_append PySem.F.type_list_append mt_append (pe_ix ix_tup (pv 6) pe_int (fun _ _=>rfl)) (pa_cons (pe_tup (pa_cons pe_int (pa_cons pe_int (pa_cons pe_int pa_nil)))) pa_nil)))))) pss_nil)
    hL))),?_⟩
   intro H1 r q xs ys A B v1 v4 h1 h2 p1 p2 lA lB bA bB
   refine ⟨_,rfl,r,xs,rfl,.inl (SqL.of h1),fun c1 nc1=>?_⟩
   have s1:=same_upd (o:=.lst xs) (Same.refl H1) nc1
   refine ⟨_,rfl,q,ys,rfl,.inl (SqL.of (s1 _ _ h2)),fun c2 nc2=>?_⟩
   have s2:=same_upd (o:=.lst ys) (Same.refl (upd H1 c1 (.lst xs))) nc2
   refine ⟨(by show 2≤sizeLine; decide),fun hd nhd=>?_⟩
   have s3:=same_upd (o:=.lst [.ref c1,.ref c2]) (Same.refl (upd (upd H1 c1 (.lst xs)) c2 (.lst ys))) nhd
   have s13:=s1.trans (s2.trans s3)
   have gr:=s13 _ _ h1
   have gq:=s13 _ _ h2
   have g1:=(s2.trans s3) _ _ upd_same
   have g2:=s3 _ _ upd_same
   have gh:(upd (upd (upd H1 c1 (.lst xs)) c2 (.lst ys)) hd (.lst [.ref c1,.ref c2])) hd = some (.lst [.ref c1,.ref c2]):=upd_same
   have pA:=p1.same s13
   have pB:=p2.same s13
   generalize upd (upd (upd H1 c1 (.lst xs)) c2 (.lst ys)) hd (.lst [.ref c1,.ref c2]) = H4 at gr gq g1 g2 gh pA pB
   refine ⟨_,rfl,hd,_,_,_,rfl,rfl,SqL.of gh,atI_nat (j:=0) rfl,_,rfl,hd,_,_,_,rfl,rfl,SqL.of gh,atI_nat (j:=1) rfl,c1,xs,A,c2,ys,B,rfl,SqL.of g1,pA,SqL.of g2,pB,bA,bB,mul144 lA lB,lA,lB,fun r6 t l H6 n6 s6 h6 it lo=>?_,fun r6 t w1 w2 l1 l2 tr1 tr2 sp H6 n6 nw1 nw2 nww s6 h6 it hw1 tw1 hw2 tw2 ok sb o1 o2 i1 i2=>?_⟩
   ·refine ⟨_,rfl,_,rfl,_,rfl,r6,r,xs,A,q,ys,B,rfl,SqL.of (s6 _ _ gr),pA.same s6,SqL.of (s6 _ _ gq),pB.same s6,lA,lB,bA,bB,.inl ⟨t,l,h6,it,lo⟩,fun H7 s7=>⟨_,rfl,iteF ?_⟩⟩
    refine ⟨_,rfl,_,rfl,_,rfl,(by show 2≤sizeLine; decide),fun e8 ne8=>?_⟩
    have s78:=s7.trans (same_upd (o:=.lst [.ref r,.ref q]) (Same.refl H7) ne8)
    have s8:=s6.trans s78
    refine ⟨hd,e8,c1,c2,r,q,xs,ys,xs,ys,A,B,rfl,rfl,SqL.of (s8 _ _ gh),SqL.of upd_same,SqL.of (s8 _ _ g1),SqL.of (s8 _ _ g2),SqL.of (s8 _ _ gr),SqL.of (s8 _ _ gq),pA.same s8,pB.same s8,pA.same s8,pB.same s8,false,rfl,iteF ?_⟩
    refine ⟨_,rfl,r6,_,_,_,rfl,rfl,SqT.of (s78 _ _ h6),atI_nat (j:=0) rfl,rfl,false,(by show V.bl (decide (V.str "line" = V.str "spot")) = V.bl false; rw [decide_eq_false line_spot]),iteF ?_⟩
    exact last _ r q hd c1 c2 xs ys A B _ _ _ (s8 _ _ gr) (s8 _ _ gq) (s8 _ _ gh) (s8 _ _ g1) (s8 _ _ g2) (pA.same s8) (pB.same s8) lA lB bA bB
   ·refine ⟨_,rfl,_,rfl,_,rfl,r6,r,xs,A,q,ys,B,rfl,SqL.of (s6 _ _ gr),pA.same s6,SqL.of (s6 _ _ gq),pB.same s6,lA,lB,bA,bB,.inr ⟨t,w1,w2,l1,l2,tr1,tr2,sp,h6,it,hw1,tw1,hw2,tw2,ok,sb,o1,o2⟩,fun H7 s7=>⟨_,rfl,iteF ?_⟩⟩
    refine ⟨_,rfl,_,rfl,_,rfl,(by show 2≤sizeLine; decide),fun e8 ne8=>?_⟩
    have s78:=s7.trans (same_upd (o:=.lst [.ref r,.ref q]) (Same.refl H7) ne8)
    have s8:=s6.trans s78
    refine ⟨hd,e8,c1,c2,r,q,xs,ys,xs,ys,A,B,rfl,rfl,SqL.of (s8 _ _ gh),SqL.of upd_same,SqL.of (s8 _ _ g1),SqL.of (s8 _ _ g2),SqL.of (s8 _ _ gr),SqL.of (s8 _ _ gq),pA.same s8,pB.same s8,pA.same s8,pB.same s8,false,rfl,iteF ?_⟩
    have f8:=s78 _ _ h6
    have it8:=it.same s78
    have w18:=s78 _ _ hw1
    have w28:=s78 _ _ hw2
    have t28:=tw2.same s78
    have ll1:=tw1.length
    have gr8:=s8 _ _ gr
    have gq8:=s8 _ _ gq
    have gh8:=s8 _ _ gh
    have g18:=s8 _ _ g1
    have g28:=s8 _ _ g2
    have pA8:=pA.same s8
    have pB8:=pB.same s8
    have r1:=ne_of_none gr nw1
    have r2:=ne_of_none gr nw2
    have q1:=ne_of_none gq nw1
    have q2:=ne_of_none gq nw2
    have hd1:=ne_of_none gh nw1
    have hd2:=ne_of_none gh nw2
    have c11:=ne_of_none g1 nw1
    have c12:=ne_of_none g1 nw2
    have c21:=ne_of_none g2 nw1
    have c22:=ne_of_none g2 nw2
    generalize upd H7 e8 (.lst [.ref r,.ref q]) = H8 at f8 it8 w18 w28 t28 gr8 gq8 gh8 g18 g28 pA8 pB8
    clear s78 s8 s7 ne8 h6 it hw1 hw2 tw1 tw2 s6 gr gq gh g1 g2 pA pB
    refine ⟨_,rfl,r6,_,_,_,rfl,rfl,SqT.of f8,atI_nat (j:=0) rfl,rfl,true,(by show V.bl (decide (V.str "spot" = V.str "spot")) = V.bl true; rw [decide_eq_true rfl]),iteT ?_⟩
    have len1:=o1.len.2
    have len2:=o2.len.2
    have lw2:=t28.length
    have lw1:l1.length≤3:=by omega
    refine ⟨_,rfl,r6,_,_,_,rfl,rfl,SqT.of f8,atI_nat (j:=2) rfl,.inl ⟨rfl,_,SqL.of w18⟩,(by show 3≤sizeLine; decide),fun u nu=>?_⟩
    have s9:=same_upd (o:=.tup [.int 0,.int 0,.int 0]) (Same.refl H8) nu
    refine ⟨w1,_,_,rfl,rfl,s9 _ _ w18,small1000 (by omega),?_⟩
    have K9:Keep H8 (upd (upd H8 u (.tup [.int 0,.int 0,.int 0])) w1 (.lst (l1++[.ref u]))):=(Same.keep s9).trans (Keep.lst (s9 _ _ w18) _)
    have f9:=K9 _ _ f8
    have it9:=it8.keep K9
    have t29:=t28.keep K9
    have pA9:=ArePts.keep pA8 K9
    have pB9:=ArePts.keep pB8 K9
    have w29:(upd (upd H8 u (.tup [.int 0,.int 0,.int 0])) w1 (.lst (l1++[.ref u]))) w2 = some (.lst l2):=by rw [upd_ne (Ne.symm nww)]; exact s9 _ _ w28
    have gr9:(upd (upd H8 u (.tup [.int 0,.int 0,.int 0])) w1 (.lst (l1++[.ref u]))) r = some (.lst xs):=by rw [upd_ne r1]; exact s9 _ _ gr8
    have gq9:(upd (upd H8 u (.tup [.int 0,.int 0,.int 0])) w1 (.lst (l1++[.ref u]))) q = some (.lst ys):=by rw [upd_ne q1]; exact s9 _ _ gq8
    have gh9:(upd (upd H8 u (.tup [.int 0,.int 0,.int 0])) w1 (.lst (l1++[.ref u]))) hd = some (.lst [.ref c1,.ref c2]):=by rw [upd_ne hd1]; exact s9 _ _ gh8
    have g19:(upd (upd H8 u (.tup [.int 0,.int 0,.int 0])) w1 (.lst (l1++[.ref u]))) c1 = some (.lst xs):=by rw [upd_ne c11]; exact s9 _ _ g18
    have g29:(upd (upd H8 u (.tup [.int 0,.int 0,.int 0])) w1 (.lst (l1++[.ref u]))) c2 = some (.lst ys):=by rw [upd_ne c21]; exact s9 _ _ g28
    generalize upd (upd H8 u (.tup [.int 0,.int 0,.int 0])) w1 (.lst (l1++[.ref u])) = H9 at K9 f9 it9 t29 pA9 pB9 w29 gr9 gq9 gh9 g19 g29
    refine ⟨_,rfl,_,rfl,r6,_,_,_,rfl,rfl,SqT.of f9,atI_nat (j:=3) rfl,_,rfl,r6,_,_,_,rfl,rfl,SqT.of f9,atI_nat (j:=1) rfl,q,ys,B,w2,l2,tr2,.ref t,sp,rfl,SqL.of gq9,pB9,bB,by omega,SqL.of w29,t29,it9,sb.bs,o2,fun H10 s10=>⟨_,rfl,iteF ?_⟩⟩
    have w210:=s10 _ _ w29
    refine ⟨_,rfl,r6,_,_,_,rfl,rfl,SqT.of (s10 _ _ f9),atI_nat (j:=3) rfl,.inl ⟨rfl,_,SqL.of w210⟩,(by show 3≤sizeLine; decide),fun u2 nu2=>?_⟩
    have s11:=same_upd (o:=.tup [.int 0,.int 0,.int 0]) (Same.refl H10) nu2
    refine ⟨w2,_,_,rfl,rfl,s11 _ _ w210,small1000 (by omega),?_⟩
    have s911:=s10.trans s11
    have K11:Keep H9 (upd (upd H10 u2 (.tup [.int 0,.int 0,.int 0])) w2 (.lst (l2++[.ref u2]))):=(Same.keep s911).trans (Keep.lst (s11 _ _ w210) _)
    refine last _ r q hd c1 c2 xs ys A B _ _ _ ?_ ?_ ?_ ?_ ?_ (ArePts.keep pA9 K11) (ArePts.keep pB9 K11) lA lB bA bB
    ·rw [upd_ne r2]; exact s911 _ _ gr9
    ·rw [upd_ne q2]; exact s911 _ _ gq9
    ·rw [upd_ne hd2]; exact s911 _ _ gh9
    ·rw [upd_ne c12]; exact s911 _ _ g19
    ·rw [upd_ne c22]; exact s911 _ _ g29
  obtain ⟨tR,hR,rest⟩:=REST
  have MOVE:∃ t,PSs (cxOf CX0 P w K mg base n_sLaw "law" (defScope sLaw) f cdv A' outer s H E).nox (List.drop 3 (defBody sLaw)) t ∧
    ∀ (H1:Hp) (r q:Addr) (xs ys:List V) (A B:List Pt) (v1:Option V),SqL K H1 a (ns.map V.int)→H1 r = some (.lst xs)→H1 q = some (.lst ys)→ArePts H1 xs A→ArePts H1 ys B→A.length≤12→B.length≤12→(∀ p ∈ A,Bd p)→(∀ p ∈ B,Bd p) →
     t { nx:=fun _ H'=>Q .non H',rt:=Q } [some (.ref a),v1,some (.ref r),some (.ref q),none,none,none] H1:=by
   refine ⟨_,pss_cons (ps_if (pt_cmpR op_eq (pe_op op_mod (pe_call C hr1 rfl m2 k2 b2 .nil pass0 (pa_cons (pv 0) (pa_cons pe_int pa_nil))) pe_int) pe_int (nomark _))
    (pss_cons (ps_set (i:=4) scL.nd rfl (Or.inr rfl) (pe_op op_sub (pe_op op_mod (pe_call C hr1 rfl m2 k2 b2 .nil pass0 (pa_cons (pv 0) (pa_cons pe_int pa_nil))) pe_int) pe_int))
    (pss_one (ps_setC (i:=3) scL.nd rfl rfl cs_lot rfl (pi_list (pv 3)) (fun _ _ _ _ _=>pg_name (i:=0) nd_lot rfl (Or.inl rfl)) (fun _ _ _ _ _=>pif_nil)
     (fun _ _ _ _ _=>pe_tup (pa_cons (pe_callB (call_max2 rfl) rfl T.max PyProof.Rows.boot_max (pa_cons (pe_un un_neg pe_int) (pa_cons (pe_callB (call_min2 rfl) rfl T.min PyProof.Rows.boot_min (pa_cons pe_int (pa_cons (pe_op op_add (pe_ix (ixt (K':=K) rfl) (pv 0) pe_int (fun _ _=>rfl)) (pv 1)) pa_nil))) pa_nil))) (pa_cons (pe_ix (ixt (K':=K) rfl) (pv 0) pe_int (fun _ _=>rfl)) pa_nil))) rfl))) pss_nil)
    hR,?_⟩
   intro H1 r q xs ys A B v1 hq1 h1 h2 p1 p2 lA lB bA bB
   have ly:=p2.length
   refine ⟨_,rfl,a,ns,20,rfl,hq1,by decide,fun z1 _=>⟨_,_,rfl,rfl,(by show (0:Int) < 4; decide),rfl,_,rfl,?_⟩⟩
   refine ite2 (fun c=>?_) (fun c=>?_)
   ·refine ⟨_,rfl,a,ns,21,rfl,hq1,by decide,fun z2 _=>⟨_,_,rfl,rfl,(by show (0:Int) < 9; decide),_,_,rfl,rfl,?_⟩⟩
    refine ⟨_,rfl,q,rfl,⟨_,SqL.of h2⟩,fun D hD=>?_⟩
    refine comp_list (K:=K) (a:=q) (xs:=ys) (fun j σ' H'=>∃ v us,σ' = [v,some (.int (z2 % 9 - 4))]∧Same H1 H'∧H' D = some (.lst us)∧ArePts H' us ((B.take j).map fun p=>(clampI (p.1+(z2 % 9 - 4)),p.2)))
     ⟨none,[],rfl,same_upd (Same.refl H1) hD,upd_same,.nil⟩ (fun j σ' H' _ ⟨_,_,_,s4,_⟩=>s4.seq (SqL.of h2)) ?_ ?_
    ·rintro j x σ' H' hj ⟨v,us,rfl,s4,h4,p4⟩
     obtain ⟨p,q1,q2⟩:=Pair.get p2 hj
     have hjl:=(List.getElem?_eq_some_iff.mp q1).1
     obtain ⟨ax,rfl,hax⟩:=q2.same s4
     have lu:=p4.length
     rw [List.length_map,List.length_take] at lu
     dsimp only [gName,tYes]
     refine iteT ⟨_,rfl,_,rfl,ax,_,_,_,rfl,rfl,SqT.of hax,atI_nat (j:=0) rfl,_,rfl,_,_,rfl,rfl,_,_,rfl,_,_,rfl,?_⟩
     refine ⟨_,rfl,ax,_,_,_,rfl,rfl,SqT.of hax,atI_nat (j:=1) rfl,(by show 2≤sizeLine; decide),fun tp ntp=>?_⟩
     have s5:=same_upd (o:=.tup [.int (clampI (p.1+(z2 % 9 - 4))),.int p.2]) (Same.refl H') ntp
     refine ⟨us,s5 _ _ h4,small1000 (by omega),_,us++[.ref tp],rfl,same_upd (s4.trans s5) hD,upd_same,?_⟩
     have K6:Keep H' (upd (upd H' tp (.tup [.int (clampI (p.1+(z2 % 9 - 4))),.int p.2])) D (.lst (us++[.ref tp]))):=(Same.keep s5).trans (Keep.lst (s5 _ _ h4) _)
     have K6':Keep (upd H' tp (.tup [.int (clampI (p.1+(z2 % 9 - 4))),.int p.2])) (upd (upd H' tp (.tup [.int (clampI (p.1+(z2 % 9 - 4))),.int p.2])) D (.lst (us++[.ref tp]))):=Keep.lst (s5 _ _ h4) _
     rw [take_snoc q1,List.map_append]
     refine Pair.append (ArePts.keep p4 K6) (.cons ⟨tp,rfl,?_⟩ .nil)
     exact K6' _ _ upd_same
    ·rintro σ' H2 ⟨v,us,rfl,s4,h4,p4⟩
     rw [List.take_of_length_le (by omega)] at p4
     refine rest H2 r D xs us A _ _ _ (s4 _ _ h1) h4 (p1.same s4) p4 lA (by rw [List.length_map]; exact lB) bA fun p hp=>?_
     obtain ⟨p0,hp0,rfl⟩:=List.mem_map.mp hp
     have:=clampI_bd (p0.1+(z2 % 9 - 4))
     have b0:=bB p0 hp0
     exact ⟨this.1,this.2,b0.2.2.1,b0.2.2.2⟩
   ·exact rest H1 r q xs ys A B _ _ h1 h2 p1 p2 lA lB bA bB
  obtain ⟨tM,hM,move⟩:=MOVE
  refine ⟨_,pss_cons (ps_set (i:=1) scL.nd rfl (Or.inl rfl) (pe_op op_add pe_int (pe_op op_mul pe_int (pe_callTy call_int1 rfl T.int PyProof.Rows.boot_int (pa_cons (pe_cmpR op_eq (pe_op op_mod (pe_call C hr1 rfl m2 k2 b2 .nil pass0 (pa_cons (pv 0) (pa_cons pe_int pa_nil))) pe_int) pe_int (nomark _)) pa_nil)))))
   (pss_cons (ps_set (i:=2) scL.nd rfl (Or.inl rfl) (pe_call N hr2 rfl m1 k1 b1 .nil pass0 (pa_cons (pv 0) (pa_cons pe_int (pa_cons (pv 1) pa_nil)))))
   (pss_cons (ps_set (i:=3) scL.nd rfl (Or.inl rfl) (pe_call N hr2 rfl m1 k1 b1 .nil pass0 (pa_cons (pv 0) (pa_cons pe_int (pa_cons (pv 1) pa_nil)))))
   hM)),?_⟩
  refine ⟨_,rfl,a,ns,22,rfl,hq,by decide,fun z1 _=>?_⟩
  refine ⟨_,_,rfl,rfl,(by show (0:Int) < 8; decide),rfl,.inr ⟨_,rfl,?_⟩⟩
  refine ⟨_,_,rfl,rfl,.inl ⟨by decide,by decide⟩,_,_,rfl,rfl,?_⟩
  have hm:∀ c:Bool,(0:Int)≤6+6 * (if c = true then 1 else 0)∧(6:Int)+6 * (if c = true then 1 else 0)≤12:=fun c=>by cases c <;> decide
  refine ⟨_,rfl,_,rfl,a,ns,0,_,rfl,hq,by decide,(hm _).1,(hm _).2,fun r xs A H1 n1 s1 h1 p1 _ l1 bA=>?_⟩
  have lA:A.length≤12:=Int.ofNat_le.mp (Int.le_trans l1 (hm _).2)
  refine ⟨_,rfl,_,rfl,a,ns,10,_,rfl,s1.seq hq,by decide,(hm _).1,(hm _).2,fun q ys B H2 n2 s2 h2 p2 _ l2 bB=>?_⟩
  have lB:B.length≤12:=Int.ofNat_le.mp (Int.le_trans l2 (hm _).2)
  exact move H2 r q xs ys A B _ ((s1.trans s2).seq hq) (s2 _ _ h1) h2 (p1.same s2) p2 lA lB bA bB
end
end Toy
set_option Elab.async false
set_option maxRecDepth 100000
namespace Toy
open PySem L2 Geo
set_option maxHeartbeats 0 in
theorem all_mk {l:PySem.W.OpenLaw} {w:World} {K:PySem.W.Frag} {h:Heap} {mg:Str→Option Value} {fa f1 f2 f3 f4 f5 f6 f7 f8 f9 f10 f11 f12 f13 f14 f15 f16 f17 f18 f19 f20 f21 f22 f23 f24 f25 f26 f27 f28 f29 f30 f31 f32 f33 f34 f35:Addr} (X:K.In h) (G:h.Ns mainGlobals mg) (hfa:mg "law" = some (.ref fa))
    {od1 an1 od2 an2 od3 an3 od4 an4 od5 an5 od6 an6 od7 an7 od8 an8 od9 an9 od10 an10 od11 an11 od12 an12 od13 an13 od14 an14 od15 an15 od16 an16 od17 an17 od18 an18 od19 an19 od20 an20 od21 an21 od22 an22 od23 an23 od24 an24 od25 an25 od26 an26 od27 an27 od28 an28 od29 an29 od30 an30 od31 an31 od32 an32 od33 an33 od34 an34 od35 an35:Option Addr} {sl1 sl2 sl3 sl4 sl5 sl6 sl7 sl8 sl9 sl10 sl11 sl12 sl13 sl14 sl15 sl16 sl17 sl18 sl19 sl20 sl21 sl22 sl23 sl24 sl25 sl26 sl27 sl28 sl29 sl30 sl31 sl32 sl33 sl34 sl35:Array (Option Value)} {oc1 kV1 dc1 pm1 cd1 ct1 oc2 kV2 dc2 pm2 cd2 ct2 oc3 kV3 dc3 pm3 cd3 ct3 oc4 kV4 dc4 pm4 cd4 ct4 oc5 kV5 dc5 pm5 cd5 ct5 oc6 kV6 dc6 pm6 cd6 ct6 oc7 kV7 dc7 pm7 cd7 ct7 oc8 kV8 dc8 pm8 cd8 ct8 oc9 kV9 dc9 pm9 cd9 ct9 oc10 kV10 dc10 pm10 cd10 ct10 oc11 kV11 dc11 pm11 cd11 ct11 oc12 kV12 dc12 pm12 cd12 ct12 oc13 kV13 dc13 pm13 cd13 ct13 oc14 kV14 dc14 pm14 cd14 ct14 oc15 kV15 dc15 pm15 cd15 ct15 oc16 kV16 dc16 pm16 cd16 ct16 oc17 kV17 dc17 pm17 cd17 ct17 oc18 kV18 dc18 pm18 cd18 ct18 oc19 kV19 dc19 pm19 cd19 ct19 oc20 kV20 dc20 pm20 cd20 ct20 oc21 kV21 dc21 pm21 cd21 ct21 oc22 kV22 dc22 pm22 cd22 ct22 oc23 kV23 dc23 pm23 cd23 ct23 oc24 kV24 dc24 pm24 cd24 ct24 oc25 kV25 dc25 pm25 cd25 ct25 oc26 kV26 dc26 pm26 cd26 ct26 oc27 kV27 dc27 pm27 cd27 ct27 oc28 kV28 dc28 pm28 cd28 ct28 oc29 kV29 dc29 pm29 cd29 ct29 oc30 kV30 dc30 pm30 cd30 ct30 oc31 kV31 dc31 pm31 cd31 ct31 oc32 kV32 dc32 pm32 cd32 ct32 oc33 kV33 dc33 pm33 cd33 ct33 oc34 kV34 dc34 pm34 cd34 ct34 oc35 kV35 dc35 pm35 cd35 ct35:Value} {tk1 tk2:Tok}
    (a1:PySem.W.nsIn K mainGlobals "check_point" = some (some (.ref f1))) (l1:K.lookup f1 = some ⟨oc1,od1,.func (PySem.W.fnOf "check_point" "check_point" (defArgs sChk) (defBody sChk) (defScope sChk) .none kV1 dc1 pm1 an1 cd1 ct1),sl1⟩) (c1:PySem.W.codeIn K cd1 "check_point" = true) (k1:PySem.W.keepIn K (.ref f1) = true)
    (a2:PySem.W.nsIn K mainGlobals "check_points" = some (some (.ref f2))) (l2:K.lookup f2 = some ⟨oc2,od2,.func (PySem.W.fnOf "check_points" "check_points" (defArgs sChks) (defBody sChks) (defScope sChks) .none kV2 dc2 pm2 an2 cd2 ct2),sl2⟩) (c2:PySem.W.codeIn K cd2 "check_points" = true) (k2:PySem.W.keepIn K (.ref f2) = true)
    (a3:PySem.W.nsIn K mainGlobals "turn" = some (some (.ref f3))) (l3:K.lookup f3 = some ⟨oc3,od3,.func (PySem.W.fnOf "turn" "turn" (defArgs sTurn) (defBody sTurn) (defScope sTurn) .none kV3 dc3 pm3 an3 cd3 ct3),sl3⟩) (c3:PySem.W.codeIn K cd3 "turn" = true) (k3:PySem.W.keepIn K (.ref f3) = true)
    (a4:PySem.W.nsIn K mainGlobals "reach" = some (some (.ref f4))) (l4:K.lookup f4 = some ⟨oc4,od4,.func (PySem.W.fnOf "reach" "reach" (defArgs sReach) (defBody sReach) (defScope sReach) .none kV4 dc4 pm4 an4 cd4 ct4),sl4⟩) (c4:PySem.W.codeIn K cd4 "reach" = true) (k4:PySem.W.keepIn K (.ref f4) = true)
    (a5:PySem.W.nsIn K mainGlobals "worth" = some (some (.ref f5))) (l5:K.lookup f5 = some ⟨oc5,od5,.func (PySem.W.fnOf "worth" "worth" (defArgs sWorth) (defBody sWorth) (defScope sWorth) .none kV5 dc5 pm5 an5 cd5 ct5),sl5⟩) (c5:PySem.W.codeIn K cd5 "worth" = true) (k5:PySem.W.keepIn K (.ref f5) = true)
    (a6:PySem.W.nsIn K mainGlobals "line_along" = some (some (.ref f6))) (l6:K.lookup f6 = some ⟨oc6,od6,.func (PySem.W.fnOf "line_along" "line_along" (defArgs sAlong) (defBody sAlong) (defScope sAlong) .none kV6 dc6 pm6 an6 cd6 ct6),sl6⟩) (c6:PySem.W.codeIn K cd6 "line_along" = true) (k6:PySem.W.keepIn K (.ref f6) = true)
    (a7:PySem.W.nsIn K mainGlobals "line_across" = some (some (.ref f7))) (l7:K.lookup f7 = some ⟨oc7,od7,.func (PySem.W.fnOf "line_across" "line_across" (defArgs sAcross) (defBody sAcross) (defScope sAcross) .none kV7 dc7 pm7 an7 cd7 ct7),sl7⟩) (c7:PySem.W.codeIn K cd7 "line_across" = true) (k7:PySem.W.keepIn K (.ref f7) = true)
    (a8:PySem.W.nsIn K mainGlobals "greatest_divisor" = some (some (.ref f8))) (l8:K.lookup f8 = some ⟨oc8,od8,.func (PySem.W.fnOf "greatest_divisor" "greatest_divisor" (defArgs sGcd) (defBody sGcd) (defScope sGcd) .none kV8 dc8 pm8 an8 cd8 ct8),sl8⟩) (c8:PySem.W.codeIn K cd8 "greatest_divisor" = true) (k8:PySem.W.keepIn K (.ref f8) = true)
    (a9:PySem.W.nsIn K mainGlobals "lowest" = some (some (.ref f9))) (l9:K.lookup f9 = some ⟨oc9,od9,.func (PySem.W.fnOf "lowest" "lowest" (defArgs sLowest) (defBody sLowest) (defScope sLowest) .none kV9 dc9 pm9 an9 cd9 ct9),sl9⟩) (c9:PySem.W.codeIn K cd9 "lowest" = true) (k9:PySem.W.keepIn K (.ref f9) = true)
    (a10:PySem.W.nsIn K mainGlobals "weighing" = some (some (.ref f10))) (l10:K.lookup f10 = some ⟨oc10,od10,.func (PySem.W.fnOf "weighing" "weighing" (defArgs sWeigh) (defBody sWeigh) (defScope sWeigh) .none kV10 dc10 pm10 an10 cd10 ct10),sl10⟩) (c10:PySem.W.codeIn K cd10 "weighing" = true) (k10:PySem.W.keepIn K (.ref f10) = true)
    (a11:PySem.W.nsIn K mainGlobals "corners_round" = some (some (.ref f11))) (l11:K.lookup f11 = some ⟨oc11,od11,.func (PySem.W.fnOf "corners_round" "corners_round" (defArgs sRnd) (defBody sRnd) (defScope sRnd) .none kV11 dc11 pm11 an11 cd11 ct11),sl11⟩) (c11:PySem.W.codeIn K cd11 "corners_round" = true) (k11:PySem.W.keepIn K (.ref f11) = true)
    (a12:PySem.W.nsIn K mainGlobals "side_of" = some (some (.ref f12))) (l12:K.lookup f12 = some ⟨oc12,od12,.func (PySem.W.fnOf "side_of" "side_of" (defArgs sSide) (defBody sSide) (defScope sSide) .none kV12 dc12 pm12 an12 cd12 ct12),sl12⟩) (c12:PySem.W.codeIn K cd12 "side_of" = true) (k12:PySem.W.keepIn K (.ref f12) = true)
    (a13:PySem.W.nsIn K mainGlobals "shutting_line" = some (some (.ref f13))) (l13:K.lookup f13 = some ⟨oc13,od13,.func (PySem.W.fnOf "shutting_line" "shutting_line" (defArgs sShut) (defBody sShut) (defScope sShut) .none kV13 dc13 pm13 an13 cd13 ct13),sl13⟩) (c13:PySem.W.codeIn K cd13 "shutting_line" = true) (k13:PySem.W.keepIn K (.ref f13) = true)
    (a14:PySem.W.nsIn K mainGlobals "shares_within" = some (some (.ref f14))) (l14:K.lookup f14 = some ⟨oc14,od14,.func (PySem.W.fnOf "shares_within" "shares_within" (defArgs sShares) (defBody sShares) (defScope sShares) .none kV14 dc14 pm14 an14 cd14 ct14),sl14⟩) (c14:PySem.W.codeIn K cd14 "shares_within" = true) (k14:PySem.W.keepIn K (.ref f14) = true)
    (a15:PySem.W.nsIn K mainGlobals "shares_between" = some (some (.ref f15))) (l15:K.lookup f15 = some ⟨oc15,od15,.func (PySem.W.fnOf "shares_between" "shares_between" (defArgs sBetween) (defBody sBetween) (defScope sBetween) .none kV15 dc15 pm15 an15 cd15 ct15),sl15⟩) (c15:PySem.W.codeIn K cd15 "shares_between" = true) (k15:PySem.W.keepIn K (.ref f15) = true)
    (a16:PySem.W.nsIn K mainGlobals "shares_of_three" = some (some (.ref f16))) (l16:K.lookup f16 = some ⟨oc16,od16,.func (PySem.W.fnOf "shares_of_three" "shares_of_three" (defArgs sOf3) (defBody sOf3) (defScope sOf3) .none kV16 dc16 pm16 an16 cd16 ct16),sl16⟩) (c16:PySem.W.codeIn K cd16 "shares_of_three" = true) (k16:PySem.W.keepIn K (.ref f16) = true)
    (a17:PySem.W.nsIn K mainGlobals "parted" = some (some (.ref f17))) (l17:K.lookup f17 = some ⟨oc17,od17,.func (PySem.W.fnOf "parted" "parted" (defArgs sParted) (defBody sParted) (defScope sParted) .none kV17 dc17 pm17 an17 cd17 ct17),sl17⟩) (c17:PySem.W.codeIn K cd17 "parted" = true) (k17:PySem.W.keepIn K (.ref f17) = true)
    (a18:PySem.W.nsIn K mainGlobals "line_or_spot" = some (some (.ref f18))) (l18:K.lookup f18 = some ⟨oc18,od18,.func (PySem.W.fnOf "line_or_spot" "line_or_spot" (defArgs sLS) (defBody sLS) (defScope sLS) .none kV18 dc18 pm18 an18 cd18 ct18),sl18⟩) (c18:PySem.W.codeIn K cd18 "line_or_spot" = true) (k18:PySem.W.keepIn K (.ref f18) = true)
    (a19:PySem.W.nsIn K mainGlobals "line_beside" = some (some (.ref f19))) (l19:K.lookup f19 = some ⟨oc19,od19,.func (PySem.W.fnOf "line_beside" "line_beside" (defArgs sBeside) (defBody sBeside) (defScope sBeside) .none kV19 dc19 pm19 an19 cd19 ct19),sl19⟩) (c19:PySem.W.codeIn K cd19 "line_beside" = true) (k19:PySem.W.keepIn K (.ref f19) = true)
    (a20:PySem.W.nsIn K mainGlobals "steps_between" = some (some (.ref f20))) (l20:K.lookup f20 = some ⟨oc20,od20,.func (PySem.W.fnOf "steps_between" "steps_between" (defArgs sSteps) (defBody sSteps) (defScope sSteps) .none kV20 dc20 pm20 an20 cd20 ct20),sl20⟩) (c20:PySem.W.codeIn K cd20 "steps_between" = true) (k20:PySem.W.keepIn K (.ref f20) = true)
    (a21:PySem.W.nsIn K mainGlobals "line_between" = some (some (.ref f21))) (l21:K.lookup f21 = some ⟨oc21,od21,.func (PySem.W.fnOf "line_between" "line_between" (defArgs sLBetween) (defBody sLBetween) (defScope sLBetween) .none kV21 dc21 pm21 an21 cd21 ct21),sl21⟩) (c21:PySem.W.codeIn K cd21 "line_between" = true) (k21:PySem.W.keepIn K (.ref f21) = true)
    (a22:PySem.W.nsIn K mainGlobals "added_up" = some (some (.ref f22))) (l22:K.lookup f22 = some ⟨oc22,od22,.func (PySem.W.fnOf "added_up" "added_up" (defArgs sAdded) (defBody sAdded) (defScope sAdded) .none kV22 dc22 pm22 an22 cd22 ct22),sl22⟩) (c22:PySem.W.codeIn K cd22 "added_up" = true) (k22:PySem.W.keepIn K (.ref f22) = true)
    (a23:PySem.W.nsIn K mainGlobals "weighed_spot" = some (some (.ref f23))) (l23:K.lookup f23 = some ⟨oc23,od23,.func (PySem.W.fnOf "weighed_spot" "weighed_spot" (defArgs sWSpot) (defBody sWSpot) (defScope sWSpot) .none kV23 dc23 pm23 an23 cd23 ct23),sl23⟩) (c23:PySem.W.codeIn K cd23 "weighed_spot" = true) (k23:PySem.W.keepIn K (.ref f23) = true)
    (a24:PySem.W.nsIn K mainGlobals "_law_cell_at" = some (some (.ref f24))) (l24:K.lookup f24 = some ⟨oc24,od24,.func (PySem.W.fnOf "_law_cell_at" "_law_cell_at" (defArgs sCell) (defBody sCell) (defScope sCell) .none kV24 dc24 pm24 an24 cd24 ct24),sl24⟩) (c24:PySem.W.codeIn K cd24 "_law_cell_at" = true) (k24:PySem.W.keepIn K (.ref f24) = true)
    (a25:PySem.W.nsIn K mainGlobals "_law_whole" = some (some (.ref f25))) (l25:K.lookup f25 = some ⟨oc25,od25,.func (PySem.W.fnOf "_law_whole" "_law_whole" (defArgs sWhole) (defBody sWhole) (defScope sWhole) .none kV25 dc25 pm25 an25 cd25 ct25),sl25⟩) (c25:PySem.W.codeIn K cd25 "_law_whole" = true) (k25:PySem.W.keepIn K (.ref f25) = true)
    (a26:PySem.W.nsIn K mainGlobals "_law_next" = some (some (.ref f26))) (l26:K.lookup f26 = some ⟨oc26,od26,.func (PySem.W.fnOf "_law_next" "_law_next" (defArgs sNext) (defBody sNext) (defScope sNext) .none kV26 dc26 pm26 an26 cd26 ct26),sl26⟩) (c26:PySem.W.codeIn K cd26 "_law_next" = true) (k26:PySem.W.keepIn K (.ref f26) = true)
    (a27:PySem.W.nsIn K mainGlobals "_law_points" = some (some (.ref f27))) (l27:K.lookup f27 = some ⟨oc27,od27,.func (PySem.W.fnOf "_law_points" "_law_points" (defArgs sPts) (defBody sPts) (defScope sPts) .none kV27 dc27 pm27 an27 cd27 ct27),sl27⟩) (c27:PySem.W.codeIn K cd27 "_law_points" = true) (k27:PySem.W.keepIn K (.ref f27) = true)
    (a28:PySem.W.nsIn K mainGlobals "_law_common" = some (some (.ref f28))) (l28:K.lookup f28 = some ⟨oc28,od28,.func (PySem.W.fnOf "_law_common" "_law_common" (defArgs sCommon) (defBody sCommon) (defScope sCommon) .none kV28 dc28 pm28 an28 cd28 ct28),sl28⟩) (c28:PySem.W.codeIn K cd28 "_law_common" = true) (k28:PySem.W.keepIn K (.ref f28) = true)
    (a29:PySem.W.nsIn K mainGlobals "_law_is_line" = some (some (.ref f29))) (l29:K.lookup f29 = some ⟨oc29,od29,.func (PySem.W.fnOf "_law_is_line" "_law_is_line" (defArgs sIsLine) (defBody sIsLine) (defScope sIsLine) .none kV29 dc29 pm29 an29 cd29 ct29),sl29⟩) (c29:PySem.W.codeIn K cd29 "_law_is_line" = true) (k29:PySem.W.keepIn K (.ref f29) = true)
    (a30:PySem.W.nsIn K mainGlobals "_law_at" = some (some (.ref f30))) (l30:K.lookup f30 = some ⟨oc30,od30,.func (PySem.W.fnOf "_law_at" "_law_at" (defArgs sAt) (defBody sAt) (defScope sAt) .none kV30 dc30 pm30 an30 cd30 ct30),sl30⟩) (c30:PySem.W.codeIn K cd30 "_law_at" = true) (k30:PySem.W.keepIn K (.ref f30) = true)
    (a31:PySem.W.nsIn K mainGlobals "_law_is_part" = some (some (.ref f31))) (l31:K.lookup f31 = some ⟨oc31,od31,.func (PySem.W.fnOf "_law_is_part" "_law_is_part" (defArgs sIsPart) (defBody sIsPart) (defScope sIsPart) .none kV31 dc31 pm31 an31 cd31 ct31),sl31⟩) (c31:PySem.W.codeIn K cd31 "_law_is_part" = true) (k31:PySem.W.keepIn K (.ref f31) = true)
    (a32:PySem.W.nsIn K mainGlobals "_law_weighs" = some (some (.ref f32))) (l32:K.lookup f32 = some ⟨oc32,od32,.func (PySem.W.fnOf "_law_weighs" "_law_weighs" (defArgs sWeighs) (defBody sWeighs) (defScope sWeighs) .none kV32 dc32 pm32 an32 cd32 ct32),sl32⟩) (c32:PySem.W.codeIn K cd32 "_law_weighs" = true) (k32:PySem.W.keepIn K (.ref f32) = true)
    (a33:PySem.W.nsIn K mainGlobals "_law_is_spot" = some (some (.ref f33))) (l33:K.lookup f33 = some ⟨oc33,od33,.func (PySem.W.fnOf "_law_is_spot" "_law_is_spot" (defArgs sIsSpot) (defBody sIsSpot) (defScope sIsSpot) .none kV33 dc33 pm33 an33 cd33 ct33),sl33⟩) (c33:PySem.W.codeIn K cd33 "_law_is_spot" = true) (k33:PySem.W.keepIn K (.ref f33) = true)
    (a34:PySem.W.nsIn K mainGlobals "_law_shown" = some (some (.ref f34))) (l34:K.lookup f34 = some ⟨oc34,od34,.func (PySem.W.fnOf "_law_shown" "_law_shown" (defArgs sShown) (defBody sShown) (defScope sShown) .none kV34 dc34 pm34 an34 cd34 ct34),sl34⟩) (c34:PySem.W.codeIn K cd34 "_law_shown" = true) (k34:PySem.W.keepIn K (.ref f34) = true)
    (a35:PySem.W.nsIn K mainGlobals "law" = some (some (.ref f35))) (l35:K.lookup f35 = some ⟨oc35,od35,.func (PySem.W.fnOf "law" "law" (defArgs sLaw) (defBody sLaw) (defScope sLaw) .none kV35 dc35 pm35 an35 cd35 ct35),sl35⟩) (c35:PySem.W.codeIn K cd35 "law" = true) (k35:PySem.W.keepIn K (.ref f35) = true)
    (y1:PySem.W.nsIn K mainGlobals "FARTHEST" = some (some (.int 1000 tk1)))
    (y2:PySem.W.nsIn K mainGlobals "MOST_POINTS" = some (some (.int 12 tk2)))
    (z1:PySem.W.nsIn K mainGlobals "len" = some none)    (z2:PySem.W.nsIn K mainGlobals "abs" = some none)    (z3:PySem.W.nsIn K mainGlobals "sorted" = some none)    (z4:PySem.W.nsIn K mainGlobals "set" = some none)    (z5:PySem.W.nsIn K mainGlobals "list" = some none)    (z6:PySem.W.nsIn K mainGlobals "reversed" = some none)    (z7:PySem.W.nsIn K mainGlobals "range" = some none)    (z8:PySem.W.nsIn K mainGlobals "isinstance" = some none)    (z9:PySem.W.nsIn K mainGlobals "int" = some none)    (z10:PySem.W.nsIn K mainGlobals "bool" = some none)    (z11:PySem.W.nsIn K mainGlobals "tuple" = some none)    (z12:PySem.W.nsIn K mainGlobals "min" = some none)    (z13:PySem.W.nsIn K mainGlobals "max" = some none)    (z14:PySem.W.nsIn K mainGlobals "all" = some none)    (z15:PySem.W.nsIn K mainGlobals "sum" = some none)    (z16:PySem.W.nsIn K mainGlobals "zip" = some none)    (z17:PySem.W.nsIn K mainGlobals "any" = some none)    (z18:PySem.W.nsIn K mainGlobals "str" = some none)    (z19:PySem.W.nsIn K mainGlobals "enumerate" = some none)    (z20:PySem.W.nsIn K mainGlobals "ValueError" = some none)    {aN:Addr} {odN:Option Addr} {slN:Array (Option Value)} {nN:Nat} {tN1 tN2:Tok} (n1:PySem.W.nsIn K mainGlobals "NO_STEP" = some (some (.ref aN))) (n2:K.lookup aN = some ⟨.type "tuple",odN,.seq #[.int 0 tN1,.int 0 tN2] nN,slN⟩)
 :
    ∃ fd:FuncData,(∀ (s:Shared) (v:Value),BindsTo s fd ⟨[v],[]⟩ [("script",v)])∧∀ base:Heap,K.In base→base.Ns mainGlobals mg→FnOk l.prog w K mg base CX0 6 fa fd ["script"] (spLaw K):=by
  have e:=hfa.symm.trans (PySem.W.mg_of X G a35)
  cases e
  have T:Txt mg:={ len:=PySem.W.mg_none_of X G z1,abs:=PySem.W.mg_none_of X G z2,sorted:=PySem.W.mg_none_of X G z3,set:=PySem.W.mg_none_of X G z4,list:=PySem.W.mg_none_of X G z5,reversed:=PySem.W.mg_none_of X G z6,range:=PySem.W.mg_none_of X G z7,isinstance:=PySem.W.mg_none_of X G z8,int:=PySem.W.mg_none_of X G z9,bool:=PySem.W.mg_none_of X G z10,tuple:=PySem.W.mg_none_of X G z11,min:=PySem.W.mg_none_of X G z12,max:=PySem.W.mg_none_of X G z13,all:=PySem.W.mg_none_of X G z14,sum:=PySem.W.mg_none_of X G z15,zip:=PySem.W.mg_none_of X G z16,any:=PySem.W.mg_none_of X G z17,str:=PySem.W.mg_none_of X G z18,enumerate:=PySem.W.mg_none_of X G z19,valueError:=PySem.W.mg_none_of X G z20,far:=⟨_,PySem.W.mg_of X G y1⟩,most:=⟨_,PySem.W.mg_of X G y2⟩ }
  have hN:NoStep K mg:=⟨aN,_,_,_,PySem.W.mg_of X G n1,n2,rfl,rfl,(by show 2≤sizeLine; decide),.cons ⟨_,rfl⟩ (.cons ⟨_,rfl⟩ .nil)⟩
  have F1:=fun_mk (st:=sChk) l1 c1 k1
  have b1:=F1.binds (ps:=["point"]) fun _ _ _ _ _ _ us hl=>match us,hl with | [_],_=>rfl
  have m1:=PySem.W.mg_of X G a1
  have F2:=fun_mk (st:=sChks) l2 c2 k2
  have b2:=F2.binds (ps:=["points"]) fun _ _ _ _ _ _ us hl=>match us,hl with | [_],_=>rfl
  have m2:=PySem.W.mg_of X G a2
  have F3:=fun_mk (st:=sTurn) l3 c3 k3
  have b3:=F3.binds (ps:=["tail","head","point"]) fun _ _ _ _ _ _ us hl=>match us,hl with | [_,_,_],_=>rfl
  have m3:=PySem.W.mg_of X G a3
  have F4:=fun_mk (st:=sReach) l4 c4 k4
  have b4:=F4.binds (ps:=["tail","head","point"]) fun _ _ _ _ _ _ us hl=>match us,hl with | [_,_,_],_=>rfl
  have m4:=PySem.W.mg_of X G a4
  have F5:=fun_mk (st:=sWorth) l5 c5 k5
  have b5:=F5.binds (ps:=["line","point"]) fun _ _ _ _ _ _ us hl=>match us,hl with | [_,_],_=>rfl
  have m5:=PySem.W.mg_of X G a5
  have F6:=fun_mk (st:=sAlong) l6 c6 k6
  have b6:=F6.binds (ps:=["tail","head"]) fun _ _ _ _ _ _ us hl=>match us,hl with | [_,_],_=>rfl
  have m6:=PySem.W.mg_of X G a6
  have F7:=fun_mk (st:=sAcross) l7 c7 k7
  have b7:=F7.binds (ps:=["tail","head"]) fun _ _ _ _ _ _ us hl=>match us,hl with | [_,_],_=>rfl
  have m7:=PySem.W.mg_of X G a7
  have F8:=fun_mk (st:=sGcd) l8 c8 k8
  have b8:=F8.binds (ps:=["one","other"]) fun _ _ _ _ _ _ us hl=>match us,hl with | [_,_],_=>rfl
  have m8:=PySem.W.mg_of X G a8
  have F9:=fun_mk (st:=sLowest) l9 c9 k9
  have b9:=F9.binds (ps:=["three"]) fun _ _ _ _ _ _ us hl=>match us,hl with | [_],_=>rfl
  have m9:=PySem.W.mg_of X G a9
  have F10:=fun_mk (st:=sWeigh) l10 c10 k10
  have b10:=F10.binds (ps:=["shares"]) fun _ _ _ _ _ _ us hl=>match us,hl with | [_],_=>rfl
  have m10:=PySem.W.mg_of X G a10
  have F11:=fun_mk (st:=sRnd) l11 c11 k11
  have b11:=F11.binds (ps:=["points"]) fun _ _ _ _ _ _ us hl=>match us,hl with | [_],_=>rfl
  have m11:=PySem.W.mg_of X G a11
  have F12:=fun_mk (st:=sSide) l12 c12 k12
  have b12:=F12.binds (ps:=["points"]) fun _ _ _ _ _ _ us hl=>match us,hl with | [_],_=>rfl
  have m12:=PySem.W.mg_of X G a12
  have F13:=fun_mk (st:=sShut) l13 c13 k13
  have b13:=F13.binds (ps:=["ends","point"]) fun _ _ _ _ _ _ us hl=>match us,hl with | [_,_],_=>rfl
  have m13:=PySem.W.mg_of X G a13
  have F14:=fun_mk (st:=sShares) l14 c14 k14
  have b14:=F14.binds (ps:=["ends","point"]) fun _ _ _ _ _ _ us hl=>match us,hl with | [_,_],_=>rfl
  have m14:=PySem.W.mg_of X G a14
  have F15:=fun_mk (st:=sBetween) l15 c15 k15
  have b15:=F15.binds (ps:=["tail","head","point"]) fun _ _ _ _ _ _ us hl=>match us,hl with | [_,_,_],_=>rfl
  have m15:=PySem.W.mg_of X G a15
  have F16:=fun_mk (st:=sOf3) l16 c16 k16
  have b16:=F16.binds (ps:=["one","two","three","point"]) fun _ _ _ _ _ _ us hl=>match us,hl with | [_,_,_,_],_=>rfl
  have m16:=PySem.W.mg_of X G a16
  have F17:=fun_mk (st:=sParted) l17 c17 k17
  have b17:=F17.binds (ps:=["ones","others"]) fun _ _ _ _ _ _ us hl=>match us,hl with | [_,_],_=>rfl
  have m17:=PySem.W.mg_of X G a17
  have F18:=fun_mk (st:=sLS) l18 c18 k18
  have b18:=F18.binds (ps:=["ones","others"]) fun _ _ _ _ _ _ us hl=>match us,hl with | [_,_],_=>rfl
  have m18:=PySem.W.mg_of X G a18
  have F19:=fun_mk (st:=sBeside) l19 c19 k19
  have b19:=F19.binds (ps:=["ones"]) fun _ _ _ _ _ _ us hl=>match us,hl with | [_],_=>rfl
  have m19:=PySem.W.mg_of X G a19
  have F20:=fun_mk (st:=sSteps) l20 c20 k20
  have b20:=F20.binds (ps:=["ones","others"]) fun _ _ _ _ _ _ us hl=>match us,hl with | [_,_],_=>rfl
  have m20:=PySem.W.mg_of X G a20
  have F21:=fun_mk (st:=sLBetween) l21 c21 k21
  have b21:=F21.binds (ps:=["ones","others","shutting"]) fun _ _ _ _ _ _ us hl=>match us,hl with | [_,_,_],_=>rfl
  have m21:=PySem.W.mg_of X G a21
  have F22:=fun_mk (st:=sAdded) l22 c22 k22
  have b22:=F22.binds (ps:=["shares"]) fun _ _ _ _ _ _ us hl=>match us,hl with | [_],_=>rfl
  have m22:=PySem.W.mg_of X G a22
  have F23:=fun_mk (st:=sWSpot) l23 c23 k23
  have b23:=F23.binds (ps:=["points","shares"]) fun _ _ _ _ _ _ us hl=>match us,hl with | [_,_],_=>rfl
  have m23:=PySem.W.mg_of X G a23
  have F24:=fun_mk (st:=sCell) l24 c24 k24
  have b24:=F24.binds (ps:=["script","k"]) fun _ _ _ _ _ _ us hl=>match us,hl with | [_,_],_=>rfl
  have m24:=PySem.W.mg_of X G a24
  have F25:=fun_mk (st:=sWhole) l25 c25 k25
  have b25:=F25.binds (ps:=["found"]) fun _ _ _ _ _ _ us hl=>match us,hl with | [_],_=>rfl
  have m25:=PySem.W.mg_of X G a25
  have F26:=fun_mk (st:=sNext) l26 c26 k26
  have b26:=F26.binds (ps:=["seed"]) fun _ _ _ _ _ _ us hl=>match us,hl with | [_],_=>rfl
  have m26:=PySem.W.mg_of X G a26
  have F27:=fun_mk (st:=sPts) l27 c27 k27
  have b27:=F27.binds (ps:=["script","at","most"]) fun _ _ _ _ _ _ us hl=>match us,hl with | [_,_,_],_=>rfl
  have m27:=PySem.W.mg_of X G a27
  have F28:=fun_mk (st:=sCommon) l28 c28 k28
  have b28:=F28.binds (ps:=["one","other"]) fun _ _ _ _ _ _ us hl=>match us,hl with | [_,_],_=>rfl
  have m28:=PySem.W.mg_of X G a28
  have F29:=fun_mk (st:=sIsLine) l29 c29 k29
  have b29:=F29.binds (ps:=["found"]) fun _ _ _ _ _ _ us hl=>match us,hl with | [_],_=>rfl
  have m29:=PySem.W.mg_of X G a29
  have F30:=fun_mk (st:=sAt) l30 c30 k30
  have b30:=F30.binds (ps:=["line","point"]) fun _ _ _ _ _ _ us hl=>match us,hl with | [_,_],_=>rfl
  have m30:=PySem.W.mg_of X G a30
  have F31:=fun_mk (st:=sIsPart) l31 c31 k31
  have b31:=F31.binds (ps:=["part"]) fun _ _ _ _ _ _ us hl=>match us,hl with | [_],_=>rfl
  have m31:=PySem.W.mg_of X G a31
  have F32:=fun_mk (st:=sWeighs) l32 c32 k32
  have b32:=F32.binds (ps:=["points","found","spot"]) fun _ _ _ _ _ _ us hl=>match us,hl with | [_,_,_],_=>rfl
  have m32:=PySem.W.mg_of X G a32
  have F33:=fun_mk (st:=sIsSpot) l33 c33 k33
  have b33:=F33.binds (ps:=["found"]) fun _ _ _ _ _ _ us hl=>match us,hl with | [_],_=>rfl
  have m33:=PySem.W.mg_of X G a33
  have F34:=fun_mk (st:=sShown) l34 c34 k34
  have b34:=F34.binds (ps:=["found","ones","others"]) fun _ _ _ _ _ _ us hl=>match us,hl with | [_,_,_],_=>rfl
  have m34:=PySem.W.mg_of X G a34
  have F35:=fun_mk (st:=sLaw) l35 c35 k35
  have b35:=F35.binds (ps:=["script"]) fun _ _ _ _ _ _ us hl=>match us,hl with | [_],_=>rfl
  have m35:=PySem.W.mg_of X G a35
  refine ⟨PySem.W.fnOf "law" "law" (defArgs sLaw) (defBody sLaw) (defScope sLaw) .none kV35 dc35 pm35 an35 cd35 ct35,fun s v=>.of_eq rfl,fun base _ _=>?_⟩
  have O24:FnOk l.prog w K mg base CX0 1 f24 _ _ _:=ok_cell F24 T
  have O26:FnOk l.prog w K mg base CX0 1 f26 _ _ _:=ok_next F26
  have O27:FnOk l.prog w K mg base CX0 2 f27 _ _ _:=ok_pts F27 T O24 b24 k24 m24 O26 b26 k26 m26
  have O1:FnOk l.prog w K mg base CX0 1 f1 _ _ _:=ok_chk F1 T
  have O2:FnOk l.prog w K mg base CX0 2 f2 _ _ _:=ok_chks F2 T O1 b1 k1 m1
  have O19:FnOk l.prog w K mg base CX0 1 f19 _ _ _:=ok_beside F19 T
  have O20:FnOk l.prog w K mg base CX0 1 f20 _ _ _:=ok_steps F20 T
  have O3:FnOk l.prog w K mg base CX0 1 f3 _ _ _:=ok_turn F3
  have O12:FnOk l.prog w K mg base CX0 2 f12 _ _ _:=ok_side F12 T O3 b3 k3 m3
  have O11:FnOk l.prog w K mg base CX0 3 f11 _ _ _:=ok_rnd F11 T O12 b12 k12 m12
  have O6:FnOk l.prog w K mg base CX0 1 f6 _ _ _:=ok_along F6
  have O7:FnOk l.prog w K mg base CX0 1 f7 _ _ _:=ok_across F7
  have O5:FnOk l.prog w K mg base CX0 1 f5 _ _ _:=ok_worth F5
  have O13:FnOk l.prog w K mg base CX0 2 f13 _ _ _:=ok_shut F13 T O6 b6 k6 m6 O7 b7 k7 m7 O5 b5 k5 m5
  have O21:FnOk l.prog w K mg base CX0 2 f21 _ _ _:=ok_lbetween F21 T O5 b5 k5 m5
  have O4:FnOk l.prog w K mg base CX0 1 f4 _ _ _:=ok_reach F4
  have O15:FnOk l.prog w K mg base CX0 2 f15 _ _ _:=ok_between F15 O4 b4 k4 m4
  have O16:FnOk l.prog w K mg base CX0 2 f16 _ _ _:=ok_of3 F16 O3 b3 k3 m3
  have O14:FnOk l.prog w K mg base CX0 3 f14 _ _ _:=ok_shares F14 T O15 b15 k15 m15 O3 b3 k3 m3 O16 b16 k16 m16
  have O22:FnOk l.prog w K mg base CX0 1 f22 _ _ _:=ok_added F22 T
  have O8:FnOk l.prog w K mg base CX0 1 f8 _ _ _:=ok_gcd F8
  have O9:FnOk l.prog w K mg base CX0 2 f9 _ _ _:=ok_lowest F9 T O8 b8 k8 m8
  have O23:FnOk l.prog w K mg base CX0 3 f23 _ _ _:=ok_wspot F23 T O9 b9 k9 m9
  have O10:FnOk l.prog w K mg base CX0 2 f10 _ _ _:=ok_weigh F10 T O8 b8 k8 m8
  have O18:FnOk l.prog w K mg base CX0 4 f18 _ _ _:=ok_ls F18 T hN O19 b19 k19 m19 O20 b20 k20 m20 O11 b11 k11 m11 O13 b13 k13 m13 O21 b21 k21 m21 O14 b14 k14 m14 O22 b22 k22 m22 O23 b23 k23 m23 O10 b10 k10 m10
  have O17:FnOk l.prog w K mg base CX0 5 f17 _ _ _:=ok_parted F17 O2 b2 k2 m2 O18 b18 k18 m18
  have O25:FnOk l.prog w K mg base CX0 1 f25 _ _ _:=ok_whole F25 T
  have O28:FnOk l.prog w K mg base CX0 1 f28 _ _ _:=ok_common F28
  have O31:FnOk l.prog w K mg base CX0 2 f31 _ _ _:=ok_ispart F31 T O25 b25 k25 m25 O28 b28 k28 m28
  have O32:FnOk l.prog w K mg base CX0 3 f32 _ _ _:=ok_weighs F32 T O31 b31 k31 m31
  have O33:FnOk l.prog w K mg base CX0 2 f33 _ _ _:=ok_isspot F33 T O25 b25 k25 m25 O28 b28 k28 m28
  have O29:FnOk l.prog w K mg base CX0 2 f29 _ _ _:=ok_isline F29 T O25 b25 k25 m25
  have O30:FnOk l.prog w K mg base CX0 1 f30 _ _ _:=ok_at F30
  have O34:FnOk l.prog w K mg base CX0 4 f34 _ _ _:=ok_shown F34 T O32 b32 k32 m32 O33 b33 k33 m33 O29 b29 k29 m29 O30 b30 k30 m30
  exact ok_law F35 T O27 b27 k27 m27 O24 b24 k24 m24 O17 b17 k17 m17 O34 b34 k34 m34 O32 b32 k32 m32
theorem walk {l:PySem.W.OpenLaw} {q:Program} {loose:List Str} {XP:(Str→Option Value)→Heap→Prop} {YP:World→Heap→Prop} {d:DefRec} {K:Params→PySem.W.Frag} (hn:l.most = some 63) (hdf:d.params.defaults = [])
  (hY:∀ (w:World) (h:Heap),YP w h→(K w.params).In h)
  (F:∀ (w:World) (mg:Str→Option Value) (fa:Addr) (h:Heap),(K w.params).In h→h.Ns mainGlobals mg→mg d.name = some (.ref fa) →
   ∃ fd:FuncData,(∀ (s:Shared) (u:Value),BindsTo s fd ⟨[u],[]⟩ [("script",u)])∧∀ base:Heap,(K w.params).In base→base.Ns mainGlobals mg→FnOk l.prog w (K w.params) mg base CX0 6 fa fd ["script"] (spLaw (K w.params))) :
  PySem.W.WalkO q loose XP YP l.row.toRowW d [] (fun f vs=>PySem.call f vs) :=
 L2.walk_of (n:=63) (k:=6) (x:="script") (CX:=fun _=>CX0) (sp:=fun w=>spLaw (K w.params)) hn (by decide) hdf ⟨rfl,by decide,by decide⟩ hY F (fun _ _ a ns hl _ hS=>⟨a,ns,rfl,hS,hl,fun _=>rfl⟩) fun _ _ _ _ _ z=>z
end Toy
def PySem.W.Fast.tw8460674345417101648:Nat:=0
def PySem.W.Fast.tw7427158599503953104:Nat:=0
def PySem.W.Fast.tw1902668957589779663:Nat:=0
def PySem.W.Fast.tw11898210476806009328:Nat:=0
def PySem.W.Fast.tw15652642754931685621:Nat:=0
def PySem.W.Fast.tw3824764515600339816:Nat:=0
def PySem.W.Fast.tw9843031586367599872:Nat:=0
def PySem.W.Fast.tw8873421377146541135:Nat:=0
def PySem.W.Fast.tw7589847878809706677:Nat:=0
def PySem.W.Fast.tw2451962732525427835:Nat:=0
def PySem.W.Fast.tw16253751527296162138:Nat:=0
open PySem PySem.W PyProof.Rows
set_option maxRecDepth 100000 in
set_option maxHeartbeats 0 in
theorem PySem.Challenge.cw_hullpart_k05_whole_parted_holds : PySem.Challenge.rw_hullpart_k05_whole_parted.Holds := by
 w_on; o_law; k_head; (case hw=>w_witness2)
 k_fill
 refine Toy.walk (l:=PySem.Challenge.rw_hullpart_k05_whole_parted) rfl rfl (fun w h Y=>PySem.W.kIn_of Y) ?F
 case F =>
  intro w mg fa h KX G hmg
  refine' Toy.all_mk KX G hmg ?a1 ?l1 ?c1 ?k1 ?a2 ?l2 ?c2 ?k2 ?a3 ?l3 ?c3 ?k3 ?a4 ?l4 ?c4 ?k4 ?a5 ?l5 ?c5 ?k5 ?a6 ?l6 ?c6 ?k6 ?a7 ?l7 ?c7 ?k7 ?a8 ?l8 ?c8 ?k8 ?a9 ?l9 ?c9 ?k9 ?a10 ?l10 ?c10 ?k10 ?a11 ?l11 ?c11 ?k11 ?a12 ?l12 ?c12 ?k12 ?a13 ?l13 ?c13 ?k13 ?a14 ?l14 ?c14 ?k14 ?a15 ?l15 ?c15 ?k15 ?a16 ?l16 ?c16 ?k16 ?a17 ?l17 ?c17 ?k17 ?a18 ?l18 ?c18 ?k18 ?a19 ?l19 ?c19 ?k19 ?a20 ?l20 ?c20 ?k20 ?a21 ?l21 ?c21 ?k21 ?a22 ?l22 ?c22 ?k22 ?a23 ?l23 ?c23 ?k23 ?a24 ?l24 ?c24 ?k24 ?a25 ?l25 ?c25 ?k25 ?a26 ?l26 ?c26 ?k26 ?a27 ?l27 ?c27 ?k27 ?a28 ?l28 ?c28 ?k28 ?a29 ?l29 ?c29 ?k29 ?a30 ?l30 ?c30 ?k30 ?a31 ?l31 ?c31 ?k31 ?a32 ?l32 ?c32 ?k32 ?a33 ?l33 ?c33 ?k33 ?a34 ?l34 ?c34 ?k34 ?a35 ?l35 ?c35 ?k35 ?y1 ?y2 ?z1 ?z2 ?z3 ?z4 ?z5 ?z6 ?z7 ?z8 ?z9 ?z10 ?z11 ?z12 ?z13 ?z14 ?z15 ?z16 ?z17 ?z18 ?z19 ?z20 ?n1 ?n2
  (case a1=>k_is)
  (case l1=>k_is)
  (case c1=>k_is)
  (case k1=>k_is)
  (case a2=>k_is)
  (case l2=>k_is)
  (case c2=>k_is)
  (case k2=>k_is)
  (case a3=>k_is)
  (case l3=>k_is)
  (case c3=>k_is)
  (case k3=>k_is)
  (case a4=>k_is)
  (case l4=>k_is)
  (case c4=>k_is)
  (case k4=>k_is)
  (case a5=>k_is)
  (case l5=>k_is)
  (case c5=>k_is)
  (case k5=>k_is)
  (case a6=>k_is)
  (case l6=>k_is)
  (case c6=>k_is)
  (case k6=>k_is)
  (case a7=>k_is)
  (case l7=>k_is)
  (case c7=>k_is)
  (case k7=>k_is)
  (case a8=>k_is)
  (case l8=>k_is)
  (case c8=>k_is)
  (case k8=>k_is)
  (case a9=>k_is)
  (case l9=>k_is)
  (case c9=>k_is)
  (case k9=>k_is)
  (case a10=>k_is)
  (case l10=>k_is)
  (case c10=>k_is)
  (case k10=>k_is)
  (case a11=>k_is)
  (case l11=>k_is)
  (case c11=>k_is)
  (case k11=>k_is)
  (case a12=>k_is)
  (case l12=>k_is)
  (case c12=>k_is)
  (case k12=>k_is)
  (case a13=>k_is)
  (case l13=>k_is)
  (case c13=>k_is)
  (case k13=>k_is)
  (case a14=>k_is)
  (case l14=>k_is)
  (case c14=>k_is)
  (case k14=>k_is)
  (case a15=>k_is)
  (case l15=>k_is)
  (case c15=>k_is)
  (case k15=>k_is)
  (case a16=>k_is)
  (case l16=>k_is)
  (case c16=>k_is)
  (case k16=>k_is)
  (case a17=>k_is)
  (case l17=>k_is)
  (case c17=>k_is)
  (case k17=>k_is)
  (case a18=>k_is)
  (case l18=>k_is)
  (case c18=>k_is)
  (case k18=>k_is)
  (case a19=>k_is)
  (case l19=>k_is)
  (case c19=>k_is)
  (case k19=>k_is)
  (case a20=>k_is)
  (case l20=>k_is)
  (case c20=>k_is)
  (case k20=>k_is)
  (case a21=>k_is)
  (case l21=>k_is)
  (case c21=>k_is)
  (case k21=>k_is)
  (case a22=>k_is)
  (case l22=>k_is)
  (case c22=>k_is)
  (case k22=>k_is)
  (case a23=>k_is)
  (case l23=>k_is)
  (case c23=>k_is)
  (case k23=>k_is)
  (case a24=>k_is)
  (case l24=>k_is)
  (case c24=>k_is)
  (case k24=>k_is)
  (case a25=>k_is)
  (case l25=>k_is)
  (case c25=>k_is)
  (case k25=>k_is)
  (case a26=>k_is)
  (case l26=>k_is)
  (case c26=>k_is)
  (case k26=>k_is)
  (case a27=>k_is)
  (case l27=>k_is)
  (case c27=>k_is)
  (case k27=>k_is)
  (case a28=>k_is)
  (case l28=>k_is)
  (case c28=>k_is)
  (case k28=>k_is)
  (case a29=>k_is)
  (case l29=>k_is)
  (case c29=>k_is)
  (case k29=>k_is)
  (case a30=>k_is)
  (case l30=>k_is)
  (case c30=>k_is)
  (case k30=>k_is)
  (case a31=>k_is)
  (case l31=>k_is)
  (case c31=>k_is)
  (case k31=>k_is)
  (case a32=>k_is)
  (case l32=>k_is)
  (case c32=>k_is)
  (case k32=>k_is)
  (case a33=>k_is)
  (case l33=>k_is)
  (case c33=>k_is)
  (case k33=>k_is)
  (case a34=>k_is)
  (case l34=>k_is)
  (case c34=>k_is)
  (case k34=>k_is)
  (case a35=>k_is)
  (case l35=>k_is)
  (case c35=>k_is)
  (case k35=>k_is)
  (case y1=>k_is)
  (case y2=>k_is)
  (case z1=>k_is)
  (case z2=>k_is)
  (case z3=>k_is)
  (case z4=>k_is)
  (case z5=>k_is)
  (case z6=>k_is)
  (case z7=>k_is)
  (case z8=>k_is)
  (case z9=>k_is)
  (case z10=>k_is)
  (case z11=>k_is)
  (case z12=>k_is)
  (case z13=>k_is)
  (case z14=>k_is)
  (case z15=>k_is)
  (case z16=>k_is)
  (case z17=>k_is)
  (case z18=>k_is)
  (case z19=>k_is)
  (case z20=>k_is)
  (case n1=>k_is)
  (case n2=>k_is)
