import PyProof.Rows.All
import Wide.All
import OpenK.AllK
import Wide.FinOn
import Lean
import PyProof.EqAt
import PyProof.EqKinds
import PyProof.TupleCall
import PySem.SetTable
import PyProof.TupleKey
import PyProof.SetKind
import PyProof.IsRules
import PyProof.DictKinds
import PyProof.Rows.SetFrom
import PyProof.SetRoads
import PyProof.FactsAll.set
import PyProof.FactsAll.tuple_iterator_1
import KE.KDictSum
import KE.KSortTup
import PyProof.NeKinds
import KE.KRevIter
import KE.KIsAll
import KE.KSorted
import KE.LcSums
import PyProof.CompFree
import PyProof.CompUse
import PyProof.ZipIter
import KE.KDictList
import PyProof.DictItems
import PyProof.WalksEnum
import PyProof.EnumMake
import PyProof.EnumFor
import PyProof.WalkInts
import KE.KIntText
import PyProof.ExcArgsOwn
import PyProof.ReprRoads
import PyProof.ReprLen
import PySem.Challenge.RW_hullpart_k11_no_point
set_option Elab.async false
set_option linter.all false
set_option maxRecDepth 100000
namespace L2
open PySem PySem.Spec PyProof.Rows
abbrev Key:=Sum Int Str
def keyIs:Key→Value→Bool
 | .inl k,v=>Value.isInt k v
 | .inr x,v=>Value.isStrOf x v
def keyH (w:World):Key→Int
 | .inl k=>hashInt k
 | .inr x=>hashStr w x
theorem keyIs_shape:∀ {k:Key} {v:Value},keyIs k v = true→(∃ i t,k = Sum.inl i∧v = Value.int i t)∨(∃ x t,k = Sum.inr x∧v = Value.str x t)
 | .inl i,v,h=>by
  obtain ⟨t,e⟩:=Value.isInt_shape (k:=i) (v:=v) h
  exact .inl ⟨i,t,rfl,e⟩
 | .inr x,v,h=>by
  obtain ⟨t,e⟩:=Value.isStrOf_shape (x:=x) (v:=v) h
  exact .inr ⟨x,t,rfl,e⟩
theorem keyIs_int (i:Int) (t:Tok):keyIs (.inl i) (.int i t) = true:=by simp [keyIs,Value.isInt]
theorem keyIs_str (x:Str) (t:Tok):keyIs (.inr x) (.str x t) = true:=by simp [keyIs,Value.isStrOf]
theorem key_ll (a b:Int):decide ((Sum.inl a:Key) = Sum.inl b) = (a == b):=by
 by_cases e:a = b
 ·subst e; simp
 ·have h:¬ (Sum.inl a:Key) = Sum.inl b:=fun q=>e (Sum.inl.inj q)
  rw [decide_eq_false h]
  exact (beq_eq_false_iff_ne.mpr e).symm
theorem key_rr (a b:Str):decide ((Sum.inr a:Key) = Sum.inr b) = decide (a = b):=by
 by_cases e:a = b
 ·subst e; simp
 ·have h:¬ (Sum.inr a:Key) = Sum.inr b:=fun q=>e (Sum.inr.inj q)
  rw [decide_eq_false h,decide_eq_false e]
theorem key_lr (a:Int) (b:Str):decide ((Sum.inl a:Key) = Sum.inr b) = false:=decide_eq_false (fun q=>nomatch q)
theorem key_rl (a:Str) (b:Int):decide ((Sum.inr a:Key) = Sum.inl b) = false:=decide_eq_false (fun q=>nomatch q)
def mixKind (prog:Program) (w:World):PySem.KeyKind prog w Key where
 is:=keyIs
 hash:=keyH w
 inj:=fun v a b ha hb=>by
  rcases keyIs_shape ha with ⟨i,t,rfl,rfl⟩ | ⟨x,t,rfl,rfl⟩
  ·rcases keyIs_shape hb with ⟨j,u,rfl,e⟩ | ⟨y,u,rfl,e⟩
   ·injection e with e1 _; rw [e1]
   ·exact nomatch e
  ·rcases keyIs_shape hb with ⟨j,u,rfl,e⟩ | ⟨y,u,rfl,e⟩
   ·exact nomatch e
   ·injection e with e1 _; rw [e1]
 byValue:=fun k v h=>by
  rcases keyIs_shape h with ⟨i,t,rfl,rfl⟩ | ⟨x,t,rfl,rfl⟩ <;> rfl
 pyHash:=fun hv h=>by
  rcases keyIs_shape hv with ⟨i,t,rfl,rfl⟩ | ⟨x,t,rfl,rfl⟩
  ·exact wpAny_pyHash_int h
  ·exact wpAny_pyHash_str h
 eqBool:=fun hu hv h=>by
  rcases keyIs_shape hu with ⟨i,t,rfl,rfl⟩ | ⟨x,t,rfl,rfl⟩
  ·rcases keyIs_shape hv with ⟨j,u,rfl,rfl⟩ | ⟨y,u,rfl,rfl⟩
   ·rw [key_ll] at h; exact wpAny_eqBool_int h
   ·rw [key_lr] at h; exact SeqAt.EqAt.int_str i t y u _ _ _ _ h
  ·rcases keyIs_shape hv with ⟨j,u,rfl,rfl⟩ | ⟨y,u,rfl,rfl⟩
   ·rw [key_rl] at h; exact SeqAt.EqAt.str_int x t j u _ _ _ _ h
   ·rw [key_rr] at h; exact wpAny_eqBool_str h
 «strs»:=fun k x t v h=>by
  rcases keyIs_shape h with ⟨i,u,rfl,e⟩ | ⟨y,u,rfl,e⟩
  ·exact nomatch e
  ·injection e with e1 _
   subst e1
   cases v <;> rfl
theorem mixKind_int (prog:Program) (w:World) (i:Int) (t:Tok):(mixKind prog w).is (.inl i) (.int i t) = true:=keyIs_int i t
theorem mixKind_str (prog:Program) (w:World) (x:Str) (t:Tok):(mixKind prog w).is (.inr x) (.str x t) = true:=keyIs_str x t
end L2
namespace L2
open PySem PySem.Spec PyProof.Rows
inductive V where
 | non | bl (b:Bool) | int (i:Int) | str (x:Str) | byt (b:Array UInt8) | flt (b:UInt64) | ref (a:Addr) | ty (n:String)
 deriving DecidableEq
def RelV:V→Value→Prop
 | .non,u=>u = Value.none
 | .bl b,u=>u = Value.bool b
 | .int i,u=>∃ t,u = Value.int i t
 | .str x,u=>∃ t,u = Value.str x t
 | .byt b,u=>∃ t,u = Value.bytes b t
 | .flt b,u=>∃ t,u = Value.float b t
 | .ref a,u=>u = Value.ref a
 | .ty n,u=>u = Value.type n
abbrev Vals:List V→List Value→Prop:=Paired RelV
theorem Vals.length {xs:List V} {us:List Value} (r:Vals xs us):xs.length = us.length:=Paired.length r
theorem Vals.get:∀ {xs:List V} {us:List Value} {i:Nat} {x:V},Vals xs us→xs[i]? = some x→∃ u,us[i]? = some u∧RelV x u
 | _,_,_,_,.nil,e=>by simp at e
 | _,_,0,_,.cons r _,e=>by simp at e; subst e; exact ⟨_,rfl,r⟩
 | _,_,i+1,x,.cons _ t,e=>by
  obtain ⟨u,h1,h2⟩:=Vals.get (i:=i) (x:=x) t (by simpa using e)
  exact ⟨u,by simpa using h1,h2⟩
theorem Vals.set {x:V} {u:Value} (r:RelV x u):∀ {xs:List V} {us:List Value} (i:Nat),Vals xs us→Vals (xs.set i x) (us.set i u)
 | _,_,_,.nil=>.nil
 | _,_,0,.cons _ t=>.cons r t
 | _,_,i+1,.cons q t=>.cons q (Vals.set r i t)
theorem Vals.append:∀ {xs ys:List V} {us ws:List Value},Vals xs us→Vals ys ws→Vals (xs++ys) (us++ws)
 | _,_,_,_,.nil,s=>s
 | _,_,_,_,.cons r t,s=>.cons r (Vals.append t s)
theorem Vals.take:∀ {xs:List V} {us:List Value} (n:Nat),Vals xs us→Vals (xs.take n) (us.take n)
 | _,_,0,_=>.nil
 | _,_,_+1,.nil=>.nil
 | _,_,n+1,.cons r t=>.cons r (Vals.take n t)
theorem Vals.drop:∀ {xs:List V} {us:List Value} (n:Nat),Vals xs us→Vals (xs.drop n) (us.drop n)
 | _,_,0,r=>r
 | _,_,_+1,.nil=>.nil
 | _,_,n+1,.cons _ t=>Vals.drop n t
def RelO:Option V→Option Value→Prop
 | some v,some u=>RelV v u
 | none,none=>True
 | _,_=>False
def KV {κ:Type}:List (κ×V)→List (κ×Value)→Prop:=Paired fun (p:κ×V) (q:κ×Value)=>p.1 = q.1∧RelV p.2 q.2
def kV:Key→V
 | .inl i=>.int i
 | .inr x=>.str x
inductive HO where
  | lst (xs:List V)
  | tup (xs:List V)
  | dK (kvs:List (Key×V)) | dT (kvs:List (List Key×V))
  | set (S:Int→Bool) (n:Nat)
  | ins (C dx:Addr) (fs:List (Str×V))
  | own (x:Addr)
  | xd (fs:List (Str×V))
  | met (f x:Addr)
  | rng (lo hi:Int)
  | frz (o:Obj) (u:HO)
  | tbl (ps:Array Value)
  | ext (φ:Heap→Prop)
abbrev Hp:=Addr→Option HO
def upd (H:Hp) (a:Addr) (o:HO):Hp:=fun b=>if b = a then some o else H b
theorem upd_same {H:Hp} {a:Addr} {o:HO}:upd H a o a = some o:=by unfold upd; rw [if_pos rfl]
theorem upd_ne {H:Hp} {a b:Addr} {o:HO} (h:b ≠ a):upd H a o b = H b:=by unfold upd; rw [if_neg h]
theorem upd_upd {H:Hp} {a:Addr} {o u:HO}:upd (upd H a o) a u = upd H a u:=by
 funext b; unfold upd; split <;> rfl
theorem ne_of {H:Hp} {a b:Addr} {o u:HO} (h:H a = some o) (h':H b = some u) (d:o ≠ u):a ≠ b:=by
 intro e; subst e; rw [h] at h'; exact d (Option.some.inj h')
theorem ne_of_none {H:Hp} {a b:Addr} {o:HO} (h:H a = some o) (h':H b = none):a ≠ b:=by
 intro e; subst e; rw [h] at h'; cases h'
section
variable (P:Program) (w:World)
def ObjOk (H:Hp) (h:Heap) (a:Addr):HO→Prop
 | .lst xs=>xs.length≤sizeLine∧∃ (its:List Value) (n:Nat),Vals xs its∧h.get? a = some { cls:=.type "list",data:=.seq its.toArray n }
 | .tup xs=>xs.length≤sizeLine∧∃ its:List Value,Vals xs its∧IsTup h a its.toArray
 | .dK kvs=>kvs.length≤sizeLine∧(a == sysModules) = false∧∃ vs,KV kvs vs∧h.DictOf (mixKind P w) a vs
 | .dT kvs=>kvs.length≤sizeLine∧(a == sysModules) = false∧∃ xs:List (List Key×Addr×Value),
   Paired (fun (p:List Key×V) (q:List Key×Addr×Value)=>p.1 = q.1∧H q.2.1 = some (.tup (p.1.map kV))∧RelV p.2 q.2.2) kvs xs ∧
   ∃ o es ep,h.get? a = some o∧o.ExactDict∧o.data = .dict es ep∧es.toList = xs.map (entryOfKey (tupleKind (mixKind P w)))∧(xs.map (·.1)).Nodup
 | .set S n=>h.SetOf (intKind P w) a S n
 | .ins C dx fs=>H dx = some (.own a)∧fs.length≤1000∧dx ≠ a∧h.get? a = some (PySem.W.instObj C dx) ∧
   ∃ mA,h.Ns1 dx mA∧(∀ f,RelO (fs.lookup f) (mA f))∧PySem.Within mA (fs.map (·.1))
 | .own _=>∃ o,h.get? a = some o
 | .xd fs=>∃ mA,h.Ns1 a mA∧∀ f,RelO (fs.lookup f) (mA f)
 | .rng lo hi=>∃ t u v,h.get? a = some { cls:=.type "range",data:=.fields #[.int lo t,.int hi u,.int 1 v] }
 | .frz o u=>h.get? a = some o∧ObjOk H h a u
 | .tbl ps=>h.get? a = some { cls:=.none,data:=.fields ps }
 | .met f x=>h.get? a = some (PySem.W.methodObj (.ref f) (.ref x))
 | .ext φ=>φ h∧(∃ o,h.get? a = some o)∧∀ h1 h2:Heap,φ h1→(∀ o,h1.get? a = some o→h2.get? a = some o)→φ h2
def HOk (H:Hp) (h:Heap):Prop:=∀ a o,H a = some o→ObjOk P w H h a o
end
section
variable {P:Program} {w:World} {H H':Hp} {h h':Heap} {a:Addr} {o:HO}
theorem ObjOk.lt (x:ObjOk P w H h a o):a < h.objs.size:=by
 cases o with
 | lst xs=>obtain ⟨_,_,_,_,e⟩:=x; exact Heap.lt_size e
 | tup xs=>obtain ⟨_,_,_,p⟩:=x; exact p.lt
 | dK kvs=>obtain ⟨_,_,_,_,o,_,_,e,_⟩:=x; exact Heap.lt_size e
 | dT kvs=>obtain ⟨_,_,_,_,o,_,_,e,_⟩:=x; exact Heap.lt_size e
 | set S n=>obtain ⟨o,_,_,_,e,_⟩:=x; exact Heap.lt_size e
 | ins C dx fs=>obtain ⟨_,_,_,e,_⟩:=x; exact Heap.lt_size e
 | own y=>obtain ⟨_,e⟩:=x; exact Heap.lt_size e
 | xd fs=>obtain ⟨_,⟨_,_,_,e,_⟩,_⟩:=x; exact Heap.lt_size e
 | rng lo hi=>obtain ⟨_,_,_,e⟩:=x; exact Heap.lt_size e
 | frz ob u=>obtain ⟨e,_⟩:=x; exact Heap.lt_size e
 | tbl ps=>exact Heap.lt_size (show h.get? a = some _ from x)
 | met f y=>exact Heap.lt_size (show h.get? a = some _ from x)
 | ext φ=>obtain ⟨_,⟨_,e⟩,_⟩:=x; exact Heap.lt_size e
theorem Paired.mapP {α β:Type} {F G:α→β→Prop}:∀ {l₁:List α} {l₂:List β},Paired F l₁ l₂→(∀ a b,F a b→G a b)→Paired G l₁ l₂
 | _,_,.nil,_=>.nil
 | _,_,.cons r t,f=>.cons (f _ _ r) (Paired.mapP t f)
theorem ObjOk.stay (x:ObjOk P w H h a o) (k:∀ b u,(b = a∨H b = some (.own a))→h.get? b = some u→h'.get? b = some u)
  (ho:∀ b,H b = some (.own a)→H' b = some (.own a)) (ht:∀ b xs,H b = some (.tup xs)→H' b = some (.tup xs)):ObjOk P w H' h' a o:=by
 induction o with
 | lst xs=>obtain ⟨z,its,n,r,e⟩:=x; exact ⟨z,its,n,r,k _ _ (.inl rfl) e⟩
 | tup xs=>obtain ⟨z,its,r,ob,e,c⟩:=x; exact ⟨z,its,r,ob,k _ _ (.inl rfl) e,c⟩
 | dK kvs=>obtain ⟨z,y,vs,r,ob,es,ep,e,c⟩:=x; exact ⟨z,y,vs,r,ob,es,ep,k _ _ (.inl rfl) e,c⟩
 | dT kvs =>
  obtain ⟨z,y,xs,r,ob,es,ep,e,c⟩:=x
  exact ⟨z,y,xs,Paired.mapP r fun p q z=>⟨z.1,ht _ _ z.2.1,z.2.2⟩,ob,es,ep,k _ _ (.inl rfl) e,c⟩
 | set S n=>obtain ⟨ob,es,ep,t,e,c⟩:=x; exact ⟨ob,es,ep,t,k _ _ (.inl rfl) e,c⟩
 | ins C dx fs =>
  obtain ⟨d,z,ne,e,mA,⟨od,es,ep,e2,c⟩,r⟩:=x
  exact ⟨ho _ d,z,ne,k _ _ (.inl rfl) e,mA,⟨od,es,ep,k _ _ (.inr d) e2,c⟩,r⟩
 | own y=>obtain ⟨ob,e⟩:=x; exact ⟨ob,k _ _ (.inl rfl) e⟩
 | xd fs=>obtain ⟨mA,⟨od,es,ep,e,c⟩,r⟩:=x; exact ⟨mA,⟨od,es,ep,k _ _ (.inl rfl) e,c⟩,r⟩
 | rng lo hi=>obtain ⟨t,u,v,e⟩:=x; exact ⟨t,u,v,k _ _ (.inl rfl) e⟩
 | frz ob u ih=>obtain ⟨e,q⟩:=x; exact ⟨k _ _ (.inl rfl) e,ih q⟩
 | tbl ps =>
  have e:h.get? a = some { cls:=.none,data:=.fields ps }:=x
  show h'.get? a = some { cls:=.none,data:=.fields ps }
  exact k a _ (.inl rfl) e
 | met f y =>
  have e:h.get? a = some (PySem.W.methodObj (.ref f) (.ref y)):=x
  show h'.get? a = some (PySem.W.methodObj (.ref f) (.ref y))
  exact k a _ (.inl rfl) e
 | ext φ=>obtain ⟨p,⟨o,e⟩,st⟩:=x; exact ⟨st _ _ p fun o q=>k _ _ (.inl rfl) q,⟨o,k _ _ (.inl rfl) e⟩,st⟩
theorem HOk.lt (x:HOk P w H h) (e:H a = some o):a < h.objs.size:=(x a o e).lt
theorem HOk.fresh (x:HOk P w H h) (e:h.objs.size≤a):H a = none:=by
 cases q:H a with
 | none=>rfl
 | some u=>exact absurd (Nat.lt_of_lt_of_le (x.lt q) e) (Nat.lt_irrefl _)
theorem HOk.kept (x:HOk P w H h) (k:∀ b u,h.get? b = some u→h'.get? b = some u):HOk P w H h':=fun a o e =>
 (x a o e).stay (fun b u _ q=>k b u q) (fun _ q=>q) fun _ _ q=>q
theorem HOk.laid (x:HOk P w H h) (k:∀ b u,h.get? b = some u→h'.get? b = some u) (hp:h.objs.size≤a) (new:ObjOk P w (upd H a o) h' a o):HOk P w (upd H a o) h':=fun b u e=>by
 have hn:=x.fresh hp
 by_cases hb:b = a
 ·subst hb; rw [upd_same] at e; cases e; exact new
 ·rw [upd_ne hb] at e
  exact (x b u e).stay (fun c v _ q=>k c v q) (fun c q=>by rw [upd_ne (ne_of_none q hn)]; exact q) fun c xs q=>by rw [upd_ne (ne_of_none q hn)]; exact q
end
def Rd (H:Hp) (a:Addr) (u:HO):Prop:=H a = some u∨∃ o,H a = some (.frz o u)
theorem Rd.of {H:Hp} {a:Addr} {u:HO} (h:H a = some u):Rd H a u:=.inl h
theorem Rd.ok {P:Program} {w:World} {H:Hp} {h:Heap} {a:Addr} {u:HO} (r:Rd H a u) (x:HOk P w H h):ObjOk P w H h a u:=by
 rcases r with r | ⟨o,r⟩
 ·exact x a u r
 ·obtain ⟨_,q⟩:=x a _ r
  exact q
def Mut:Option HO→Prop
 | some (.lst _)=>True
 | some (.dK _)=>True
 | some (.dT _)=>True
 | some (.set _ _)=>True
 | some (.ins _ _ _)=>True
 | some (.ext _)=>True
 | _=>False
section
variable {P:Program} {w:World} {H:Hp} {h h':Heap} {x e:Addr} {o':HO}
theorem HOk.write (ok:HOk P w H h) (mu:Mut (H x)) (he:e = x∨H e = some (.own x)) (k:∀ b u,b ≠ e→h.get? b = some u→h'.get? b = some u) (heo:∃ u,h'.get? e = some u)
  (new:ObjOk P w (upd H x o') h' x o'):HOk P w (upd H x o') h':=fun b u q=>by
 have nown:∀ c y,H c = some (.own y)→c ≠ x:=fun c y r z=>by subst z; rw [r] at mu; exact mu
 have ntup:∀ c xs,H c = some (.tup xs)→c ≠ x:=fun c xs r z=>by subst z; rw [r] at mu; exact mu
 by_cases hb:b = x
 ·subst hb; rw [upd_same] at q; cases q; exact new
 ·rw [upd_ne hb] at q
  by_cases hbe:b = e
  ·have q':H b = some (.own x):=by
    rcases he with z | z
    ·exact absurd (hbe.trans z) hb
    ·rw [hbe]; exact z
   rw [q] at q'; cases q'
   obtain ⟨v,hv⟩:=heo
   exact ⟨v,by rw [hbe]; exact hv⟩
  ·refine (ok b u q).stay (fun c v hc r=>k c v ?_ r) (fun c r=>by rw [upd_ne (nown c b r)]; exact r) fun c xs r=>by rw [upd_ne (ntup c xs r)]; exact r
   rcases hc with rfl | hc
   ·exact hbe
   ·rintro rfl
    rcases he with z | z
    ·exact nown c b hc z
    ·rw [hc] at z; cases z; exact hb rfl
end
structure Un (fs ex:List Addr) (H H':Hp) (h h':Heap):Prop where
 keep:∀ b o,h.get? b = some o→H b = none→b ∉ fs→b ∉ ex→h'.get? b = some o
 slot:∀ b o,h.get? b = some o→H b = none→b ∈ fs→b ∉ ex→∃ sl,h'.get? b = some { o with slots:=sl }
 free:∀ b o,h.get? b = some o→H b = none→b ∉ ex→H' b = none
 there:∀ b o,h.get? b = some o→b ∉ ex→∃ o',h'.get? b = some o'
 tups:∀ b xs,H b = some (.tup xs)→H' b = some (.tup xs)
 frzs:∀ b o u,H b = some (.frz o u)→H' b = some (.frz o u)
 tbls:∀ b ps,H b = some (.tbl ps)→∃ more,H' b = some (.tbl (ps++more))
section
variable {fs fs' ex ex':List Addr} {H H1 H2:Hp} {h h1 h2 h':Heap} {a x e:Addr} {o:HO}
theorem Un.any (u:Un fs ex H H1 h h1) {b:Addr} {ob:Obj} (q:h.get? b = some ob) (n:H b = none) (hx:b ∉ ex):∃ sl,h1.get? b = some { ob with slots:=sl }:=by
 by_cases hb:b ∈ fs
 ·exact u.slot b ob q n hb hx
 ·exact ⟨ob.slots,u.keep b ob q n hb hx⟩
theorem Un.trans (a:Un fs ex H H1 h h1) (b:Un fs ex H1 H2 h1 h2):Un fs ex H H2 h h2 where
 keep:=fun c ob q n hc hx=>b.keep c ob (a.keep c ob q n hc hx) (a.free c ob q n hx) hc hx
 slot:=fun c ob q n hc hx=>by
  obtain ⟨sl,e1⟩:=a.slot c ob q n hc hx
  obtain ⟨sl',e2⟩:=b.slot c _ e1 (a.free c ob q n hx) hc hx
  exact ⟨sl',e2⟩
 free:=fun c ob q n hx=>by
  obtain ⟨o',e1⟩:=a.there c ob q hx
  exact b.free c o' e1 (a.free c ob q n hx) hx
 there:=fun c ob q hx=>by
  obtain ⟨o',e1⟩:=a.there c ob q hx
  exact b.there c o' e1 hx
 tups:=fun c xs q=>b.tups c xs (a.tups c xs q)
 frzs:=fun c ob xs q=>b.frzs c ob xs (a.frzs c ob xs q)
 tbls:=fun c ps q=>by
  obtain ⟨m1,e1⟩:=a.tbls c ps q
  obtain ⟨m2,e2⟩:=b.tbls c _ e1
  exact ⟨m1++m2,by rw [e2,Array.append_assoc]⟩
theorem Un.kept (k:∀ b u,h.get? b = some u→h'.get? b = some u):Un fs ex H H h h' :=
 ⟨fun b ob q _ _ _=>k b ob q,fun b ob q _ _ _=>⟨ob.slots,k b ob q⟩,fun _ _ _ n _=>n,fun b ob q _=>⟨ob,k b ob q⟩,fun _ _ q=>q,fun _ _ _ q=>q,fun _ ps q=>⟨#[],by rw [q]; simp⟩⟩
theorem Un.refl:Un fs ex H H h h:=Un.kept fun _ _ q=>q
theorem Un.laid (k:∀ b u,h.get? b = some u→h'.get? b = some u) (hp:h.objs.size≤a) (hn:H a = none):Un fs ex H (upd H a o) h h' where
 keep:=fun b u q _ _ _=>k b u q
 slot:=fun b u q _ _ _=>⟨u.slots,k b u q⟩
 free:=fun b u q n _=>by rw [upd_ne (Nat.ne_of_lt (Nat.lt_of_lt_of_le (Heap.lt_size q) hp))]; exact n
 there:=fun b u q _=>⟨u,k b u q⟩
 tups:=fun b xs q=>by rw [upd_ne (ne_of_none q hn)]; exact q
 frzs:=fun b u xs q=>by rw [upd_ne (ne_of_none q hn)]; exact q
 tbls:=fun b ps q=>⟨#[],by rw [upd_ne (ne_of_none q hn),q]; simp⟩
theorem Un.write (mu:Mut (H x)) (he:e = x∨H e = some (.own x)) (k:∀ b u,b ≠ e→h.get? b = some u→h'.get? b = some u) (heo:∃ u,h'.get? e = some u):Un fs ex H (upd H x o) h h':=by
 have hx:∀ b,H b = none→b ≠ x:=fun b n z=>by subst z; rw [n] at mu; exact mu
 have hb:∀ b,H b = none→b ≠ e:=fun b n z=>by
  subst z
  rcases he with r | r
  ·exact hx b n r
  ·rw [n] at r; cases r
 have hm:∀ b u,H b = some u→¬ Mut (some u)→b ≠ x:=fun b u q nm z=>by subst z; rw [q] at mu; exact nm mu
 refine ⟨fun b u q n _ _=>k b u (hb b n) q,fun b u q n _ _=>⟨u.slots,k b u (hb b n) q⟩,fun b u q n _=>by rw [upd_ne (hx b n)]; exact n,fun b u q _=>?_,
  fun b xs q=>by rw [upd_ne (hm b _ q fun z=>z)]; exact q,fun b u xs q=>by rw [upd_ne (hm b _ q fun z=>z)]; exact q,fun b ps q=>⟨#[],by rw [upd_ne (hm b _ q fun z=>z),q]; simp⟩⟩
 by_cases hbe:b = e
 ·subst hbe; exact heo
 ·exact ⟨u,k b u hbe q⟩
theorem Un.mono (u:Un fs ex H H1 h h1) (hs:∀ b ∈ fs,b ∈ fs') (hx:∀ b ∈ ex,b ∈ ex'):Un fs' ex' H H1 h h1 :=
 ⟨fun b ob q n hb he=>u.keep b ob q n (fun z=>hb (hs b z)) fun z=>he (hx b z),fun _ _ q n _ he=>u.any q n fun z=>he (hx _ z),fun b ob q n he=>u.free b ob q n fun z=>he (hx b z),fun b ob q he=>u.there b ob q fun z=>he (hx b z),u.tups,u.frzs,u.tbls⟩
end
def trk (h:Heap) (H:Hp):List Addr:=(List.range h.objs.size).filter fun a=>(H a).isSome
def hidT (h:Heap) (H:Hp):Heap:=PySem.W.hideAll h (trk h H)
theorem hidT_size (h:Heap) (H:Hp):(hidT h H).objs.size = h.objs.size:=PySem.W.hideAll_size _ _
theorem hidT_get {h:Heap} {H:Hp} {b:Addr} {o:Obj} (e:h.get? b = some o) (n:H b = none):(hidT h H).get? b = some o :=
 PySem.W.hideAll_get _ e fun hm=>by
  have q:(H b).isSome = true:=(List.mem_filter.mp hm).2
  rw [n] at q; simp at q
theorem of_hidT {h:Heap} {H:Hp} {b:Addr} {o:Obj} (e:(hidT h H).get? b = some o):h.get? b = some o∧H b = none:=by
 have e':h.get? b = some o:=PySem.W.of_hideAll (trk h H) e
 refine ⟨e',?_⟩
 cases q:H b with
 | none=>rfl
 | some x =>
  have hm:b ∈ trk h H:=List.mem_filter.mpr ⟨List.mem_range.mpr (Heap.lt_size e'),by simp [q]⟩
  have z:(hidT h H).get? b = none:=PySem.W.hideAll_none (trk h H) hm
  rw [z] at e; cases e
def allNews (g h:Heap) (L:Addr):List (Addr×Obj):=(List.range h.objs.size).filterMap fun a=>if a = L∨(g.get? a).isSome = true then none else (h.get? a).map fun o=>(a,o)
theorem mem_allNews {g h:Heap} {L a:Addr} {o:Obj} (h1:a ≠ L) (h2:g.get? a = none) (h3:h.get? a = some o):(a,o) ∈ allNews g h L :=
 List.mem_filterMap.mpr ⟨a,List.mem_range.mpr (Heap.lt_size h3),by simp [h1,h2,h3]⟩
theorem of_mem_allNews {g h:Heap} {L:Addr} {p:Addr×Obj} (hp:p ∈ allNews g h L):p.1 ≠ L∧g.get? p.1 = none∧h.get? p.1 = some p.2:=by
 obtain ⟨b,_,e⟩:=List.mem_filterMap.mp hp
 split at e
 ·cases e
 ·rename_i hn
  cases q:h.get? b with
  | none=>rw [q] at e; simp at e
  | some u =>
   rw [q] at e
   simp only [Option.map_some,Option.some.injEq] at e
   subst e
   refine ⟨fun z=>hn (.inl z),?_,q⟩
   show g.get? b = none
   cases r:g.get? b with
   | none=>rfl
   | some v=>exact (hn (.inr (by simp [r]))).elim
def rest (g h:Heap) (L d:Addr):List (Addr×Obj):=(allNews g h L).filter fun p=>decide (p.1 ≠ d)
theorem news_all {g h:Heap} {L:Addr}:News g L h (allNews g h L):=fun p hp=>let ⟨a,b,c⟩:=of_mem_allNews hp; ⟨c,a,b⟩
end L2
namespace L2
open PySem PySem.Spec PyProof.Rows
structure Mod (K:PySem.W.Frag) (mg:Str→Option Value) (base:Heap):Prop where
 kin:K.In base
 glob:base.Ns mainGlobals mg
 blt:∃ mb,base.Ns builtinsNs mb∧∀ x:Str,x ≠ "__name__"→mb x = bootBuiltins x
 nolimit:base.NoLimit
structure Cx where
 prog:Program
 w:World
 K:PySem.W.Frag
 mg:Str→Option Value
 base:Heap
 A:Around
 N:List Str
 s₀:Shared
 H₀:Hp
 env:Env
 outer:List Env
 stack:List Env
 ex:List Addr
 fn:Str→Bool
 calm:Bool
 pn:List (Addr×Obj)
 xe:Value→Shared→Prop
def frs (l:List Env):List Addr:=l.filterMap (·.frame)
abbrev Cx.fs (X:Cx):List Addr:=frs X.outer
def Vis (sc:Scope) (x:Str):Prop:=sc.names.lookup x = some .local∨sc.names.lookup x = some .cell∨sc.names.lookup x = some .free
def Loc (sc:Scope) (x:Str):Prop:=sc.names.lookup x = some .local∨sc.names.lookup x = some .cell
def Look (env:Env) (h:Heap) (m:Str→Option Value) (x:Str) (u:Value):Prop :=
 (env.kindOf x = some .local∧m x = some u)∨((env.kindOf x = some .cell∨env.kindOf x = some .free)∧∃ c,env.cells.lookup x = some c∧h.IsCell c (some u))
structure Cx.Ok (X:Cx):Prop where
 mod:Mod X.K X.mg X.base
 kind:X.env.scope.kind = .function
 glob:X.env.globals = mainGlobals
 blt:X.env.builtins = builtinsNs
 above:X.s₀.heap.objs.size≤X.env.locals
 inj:∀ x y c,X.env.cells.lookup x = some c→X.env.cells.lookup y = some c→x = y
 has:∀ x,(X.env.kindOf x = some .cell∨X.env.kindOf x = some .free)→∃ c,X.env.cells.lookup x = some c
 cab:∀ x c,X.fn x = true→X.env.cells.lookup x = some c→X.s₀.heap.objs.size≤c
 hd:X.calm = true→X.A.handled = none
 frames:X.A.frames = some X.stack
 stk:X.stack = X.outer∨(X.stack = X.env :: X.outer∧X.env.frame = some X.env.locals)
 exf:∀ b ∈ X.ex,b ≠ X.env.locals∧∀ x c,X.env.cells.lookup x = some c→c ≠ b
 bs:∀ b o,X.base.get? b = some o→X.s₀.heap.get? b = some o∧X.H₀ b = none
 bsz:X.base.objs.size≤X.s₀.heap.objs.size
 noex:∀ b o,X.base.get? b = some o→b ∉ X.ex
 exfs:∀ b ∈ X.ex,b ∉ X.fs
 funs:X.s₀.heap.FunFrames X.base X.outer
 frf:∀ b ∈ X.fs,X.H₀ b = none
structure Inv (X:Cx) (pins:List (Addr×Obj)) (σ:List (Option V)) (H:Hp) (s:Shared):Prop where
 ok:X.Ok
 os:s.os = X.s₀.os
 bare:AllBare s.gens
 base:Un X.fs X.ex X.H₀ H X.s₀.heap s.heap
 loc:∃ m,s.heap.Ns X.env.locals m∧∀ (i:Nat) (x:Str) (v:V),X.N[i]? = some x→σ[i]? = some (some v)→Vis X.env.scope x→∃ u,RelV v u∧Look X.env s.heap m x u
 cell:∀ x c,X.env.cells.lookup x = some c→∃ v,s.heap.IsCell c v
 free:H X.env.locals = none
 freeC:∀ x c,X.env.cells.lookup x = some c→H c = none
 pin:∀ p ∈ X.pn++pins,s.heap.get? p.1 = some p.2∧H p.1 = none∧p.1 ≠ X.env.locals∧p.1 ∉ X.fs∧∀ v,p.2.data ≠ .cell v
 hok:HOk X.prog X.w H s.heap
 len:σ.length = X.N.length
section
variable {X:Cx} {pins:List (Addr×Obj)} {σ:List (Option V)} {H H':Hp} {s:Shared} {h':Heap}
theorem Cx.Ok.nofr (ok:X.Ok) {b:Addr} {o:Obj} (e:X.base.get? b = some o):b ∉ X.fs:=fun hb=>by
 have:=(ok.funs.mem hb).1
 rw [e] at this; cases this
theorem Inv.bs (I:Inv X pins σ H s):∀ b o,X.base.get? b = some o→s.heap.get? b = some o∧H b = none:=fun b o e =>
 ⟨I.base.keep b o (I.ok.bs b o e).1 (I.ok.bs b o e).2 (I.ok.nofr e) (I.ok.noex b o e),I.base.free b o (I.ok.bs b o e).1 (I.ok.bs b o e).2 (I.ok.noex b o e)⟩
theorem Inv.bk (I:Inv X pins σ H s):∀ b o,X.base.get? b = some o→s.heap.get? b = some o:=fun b o e=>(I.bs b o e).1
theorem Inv.mod (I:Inv X pins σ H s):Mod X.K X.mg X.base:=I.ok.mod
theorem Inv.kIn (I:Inv X pins σ H s):X.K.In s.heap:=I.ok.mod.kin.keeps I.bk
theorem Inv.nolimit (I:Inv X pins σ H s):s.heap.NoLimit:=I.ok.mod.nolimit.keeps I.bk
theorem Inv.fr (I:Inv X pins σ H s):∃ m,Fr X.base X.env.locals s.heap m :=
 let ⟨m,hn,_⟩:=I.loc
 ⟨m,hn,I.bk,Nat.le_trans I.ok.bsz I.ok.above⟩
theorem Inv.lt (I:Inv X pins σ H s):X.env.locals < s.heap.objs.size:=let ⟨_,hn,_⟩:=I.loc; hn.lt
theorem Inv.sz (I:Inv X pins σ H s):X.s₀.heap.objs.size≤s.heap.objs.size:=Nat.le_trans I.ok.above (Nat.le_of_lt I.lt)
theorem Inv.nofs (I:Inv X pins σ H s) {a:Addr} (h:s.heap.objs.size≤a):a ∉ X.fs:=fun hb=>by
 obtain ⟨_,o,ho,_⟩:=I.ok.funs.mem hb
 exact absurd (Nat.lt_of_lt_of_le (Heap.lt_size ho) (Nat.le_trans I.sz h)) (Nat.lt_irrefl _)
theorem Inv.cne (I:Inv X pins σ H s):∀ x c,X.env.cells.lookup x = some c→c ≠ X.env.locals:=fun x c e z=>by
 obtain ⟨v,o,ho,hd⟩:=I.cell x c e
 obtain ⟨m,⟨o',es,ep,ho',hd',_⟩,_⟩:=I.loc
 rw [z,ho'] at ho; cases ho; rw [hd'] at hd; cases hd
theorem Inv.funs (I:Inv X pins σ H s):s.heap.FunFrames X.base X.outer:=by
 have all:∀ (l:List Env),(∀ b ∈ frs l,b ∈ X.fs)→X.s₀.heap.FunFrames X.base l→s.heap.FunFrames X.base l:=by
  intro l
  induction l with
  | nil=>intro _ _; trivial
  | cons env r ih =>
   intro hs hl
   obtain ⟨hk,⟨L,o,hf,hn,ho,hd⟩,hr⟩:=hl
   have hL:L ∈ X.fs:=hs L (by unfold frs; rw [List.filterMap_cons,hf]; exact List.mem_cons_self)
   obtain ⟨sl,e⟩:=I.base.slot L o ho (I.ok.frf L hL) hL fun z=>I.ok.exfs L z hL
   exact ⟨hk,⟨L,_,hf,hn,e,hd⟩,ih (fun b hb=>hs b (by unfold frs; rw [List.filterMap_cons,hf]; exact List.mem_cons_of_mem _ hb)) hr⟩
 exact all X.outer (fun _ hb=>hb) I.ok.funs
theorem Inv.stack (I:Inv X pins σ H s):s.heap.FunFrames X.base X.stack:=by
 rcases I.ok.stk with e | ⟨e,hf⟩
 ·rw [e]; exact I.funs
 ·rw [e]
  obtain ⟨m,hn,_⟩:=I.loc
  refine .cons (by rw [I.ok.kind]; decide) hf hn ?_ I.funs
  exact Heap.get?_none_of_le (Nat.le_trans I.ok.bsz I.ok.above)
theorem Inv.stkSub (I:Inv X pins σ H s):∀ b ∈ frs X.stack,b ∈ X.env.locals :: X.fs:=fun b hb=>by
 rcases I.ok.stk with e | ⟨e,hf⟩
 ·rw [e] at hb; exact List.mem_cons_of_mem _ hb
 ·rw [e] at hb
  unfold frs at hb
  rw [List.filterMap_cons,hf] at hb
  exact hb
theorem Inv.stkFree (I:Inv X pins σ H s):∀ b ∈ frs X.stack,H b = none:=fun b hb=>by
 rcases List.mem_cons.mp (I.stkSub b hb) with e | hb
 ·rw [e]; exact I.free
 ·obtain ⟨_,o,ho,_⟩:=I.ok.funs.mem hb
  exact I.base.free b o ho (I.ok.frf b hb) fun z=>I.ok.exfs b z hb
theorem Inv.step {g':Array GenState} {t':Nat} {d':Drawn} {ch:List Addr} (I:Inv X pins σ H s)
  (hch:∀ b ∈ ch,(b ∈ X.ex∨X.s₀.heap.objs.size≤b)∧b ≠ X.env.locals∧(∀ x c,X.env.cells.lookup x = some c→c ≠ b)∧∀ p ∈ X.pn++pins,p.1 ≠ b)
  (keep:∀ b o,b ≠ X.env.locals→b ∉ X.fs→b ∉ ch→s.heap.get? b = some o→H b = none→h'.get? b = some o)
  (slot:∀ b o,b ≠ X.env.locals→b ∈ X.fs→b ∉ ch→s.heap.get? b = some o→H b = none→∃ sl,h'.get? b = some { o with slots:=sl }) (free:∀ b o,b ∉ ch→s.heap.get? b = some o→H b = none→H' b = none)
  (there:∀ b o,b ∉ ch→s.heap.get? b = some o→∃ o',h'.get? b = some o')
  (tups:∀ b xs,H b = some (.tup xs)→H' b = some (.tup xs)) (frzs:∀ b o u,H b = some (.frz o u)→H' b = some (.frz o u)) (tbls:∀ b ps,H b = some (.tbl ps)→∃ more,H' b = some (.tbl (ps++more)))
  (ns:∀ m,s.heap.Ns X.env.locals m→h'.Ns X.env.locals m) (hok:HOk X.prog X.w H' h') (hg:AllBare g') :
  Inv X pins σ H' { s with heap:=h',gens:=g',drawn:=d',toks:=t' }:=by
 have neL:∀ b o,X.s₀.heap.get? b = some o→b ≠ X.env.locals:=fun b o e=>Nat.ne_of_lt (Nat.lt_of_lt_of_le (Heap.lt_size e) I.ok.above)
 have neC:∀ b o,X.s₀.heap.get? b = some o→b ∉ X.ex→b ∉ ch:=fun b o e hx hb=>by
  rcases (hch b hb).1 with z | z
  ·exact hx z
  ·exact absurd (Nat.lt_of_lt_of_le (Heap.lt_size e) z) (Nat.lt_irrefl _)
 have cellK:∀ x c,X.env.cells.lookup x = some c→∀ v,s.heap.IsCell c v→h'.IsCell c v:=fun x c e v ⟨o,ho,hd⟩=>by
  have nch:c ∉ ch:=fun z=>(hch c z).2.2.1 x c e rfl
  by_cases hc:c ∈ X.fs
  ·obtain ⟨sl,q⟩:=slot c o (I.cne x c e) hc nch ho (I.freeC x c e)
   exact ⟨_,q,hd⟩
  ·exact ⟨o,keep c o (I.cne x c e) hc nch ho (I.freeC x c e),hd⟩
 refine ⟨I.ok,I.os,hg,⟨fun b o e n hb hx=>?_,fun b o e n hb hx=>?_,fun b o e n hx=>?_,fun b o e hx=>?_,fun b xs e=>tups b xs (I.base.tups b xs e),fun b o xs e=>frzs b o xs (I.base.frzs b o xs e),fun b ps e=>?_⟩,?_,fun x c e=>?_,?_,fun x c e=>?_,fun p hp=>?_,hok,I.len⟩
 ·exact keep b o (neL b o e) hb (neC b o e hx) (I.base.keep b o e n hb hx) (I.base.free b o e n hx)
 ·obtain ⟨sl,e1⟩:=I.base.slot b o e n hb hx
  obtain ⟨sl',e2⟩:=slot b _ (neL b o e) hb (neC b o e hx) e1 (I.base.free b o e n hx)
  exact ⟨sl',e2⟩
 ·obtain ⟨o',e1⟩:=I.base.there b o e hx
  exact free b o' (neC b o e hx) e1 (I.base.free b o e n hx)
 ·obtain ⟨o',e1⟩:=I.base.there b o e hx
  exact there b o' (neC b o e hx) e1
 ·obtain ⟨m1,e1⟩:=I.base.tbls b ps e
  obtain ⟨m2,e2⟩:=tbls b _ e1
  exact ⟨m1++m2,by rw [e2,Array.append_assoc]⟩
 ·obtain ⟨m,hn,hl⟩:=I.loc
  refine ⟨m,ns m hn,fun i x v e1 e2 e3=>?_⟩
  obtain ⟨u,r,l⟩:=hl i x v e1 e2 e3
  refine ⟨u,r,?_⟩
  rcases l with l | ⟨k,c,e,z⟩
  ·exact .inl l
  ·exact .inr ⟨k,c,e,cellK x c e _ z⟩
 ·obtain ⟨v,z⟩:=I.cell x c e
  exact ⟨v,cellK x c e v z⟩
 ·obtain ⟨m,⟨o,_,_,ho,_⟩,_⟩:=I.loc
  exact free _ o (fun z=>(hch _ z).2.1 rfl) ho I.free
 ·obtain ⟨v,o,ho,hd⟩:=I.cell x c e
  exact free c o (fun z=>(hch c z).2.2.1 x c e rfl) ho (I.freeC x c e)
 ·obtain ⟨e,n,ne,nf,d⟩:=I.pin p hp
  have nch:p.1 ∉ ch:=fun z=>(hch p.1 z).2.2.2 p hp rfl
  exact ⟨keep p.1 p.2 ne nf nch e n,free p.1 p.2 nch e n,ne,nf,d⟩
theorem Inv.un {t':Nat} (I:Inv X pins σ H s) (u:Un X.fs [] H H' s.heap h') (hok:HOk X.prog X.w H' h'):Inv X pins σ H' { s with heap:=h',toks:=t' }:=by
 obtain ⟨m,⟨o,es,ep,ho,r⟩,_⟩:=id I.loc
 obtain ⟨sl,hL⟩:=u.any ho I.free (by simp)
 exact I.step (g':=s.gens) (d':=s.drawn) (ch:=[]) (fun _ z=>nomatch z) (fun b o _ hb _ e n=>u.keep b o e n hb (by simp)) (fun b o _ hb _ e n=>u.slot b o e n hb (by simp)) (fun b o _ e n=>u.free b o e n (by simp)) (fun b o _ e=>u.there b o e (by simp)) u.tups u.frzs u.tbls (fun m' hm=>by
  obtain ⟨o',es',ep',ho',r'⟩:=hm
  rw [ho] at ho'; cases ho'
  exact ⟨_,es',ep',hL,r'⟩) hok I.bare
theorem Inv.call {g':Array GenState} {t':Nat} {d':Drawn} {ch:List Addr} (I:Inv X pins σ H s) (u:Un (frs X.stack) ch H H' s.heap h') (hok:HOk X.prog X.w H' h') (hg:AllBare g')
  (hch:∀ b ∈ ch,(b ∈ X.ex∨X.s₀.heap.objs.size≤b)∧b ≠ X.env.locals∧(∀ x c,X.env.cells.lookup x = some c→c ≠ b)∧∀ p ∈ X.pn++pins,p.1 ≠ b) :
  Inv X pins σ H' { s with heap:=h',gens:=g',drawn:=d',toks:=t' }:=by
 obtain ⟨m,⟨o,es,ep,ho,r⟩,_⟩:=id I.loc
 obtain ⟨sl,hL⟩:=u.any ho I.free fun z=>(hch _ z).2.1 rfl
 exact I.step (ch:=ch) hch (fun b o hL hb hc e n=>u.keep b o e n (fun z=>(List.mem_cons.mp (I.stkSub b z)).elim hL hb) hc) (fun b o _ _ hc e n=>u.any e n hc) (fun b o hc e n=>u.free b o e n hc) (fun b o hc e=>u.there b o e hc) u.tups u.frzs u.tbls (fun m' hm=>by
  obtain ⟨o',es',ep',ho',r'⟩:=hm
  rw [ho] at ho'; cases ho'
  exact ⟨_,es',ep',hL,r'⟩) hok hg
theorem Inv.turned {t':Nat} {it:Addr} (I:Inv X pins σ H s) (k:∀ b o,b ≠ it→s.heap.get? b = some o→h'.get? b = some o) (hn:H it = none) (hL:it ≠ X.env.locals)
  (h1:it ∈ X.ex∨X.s₀.heap.objs.size≤it) (h2:∀ x c,X.env.cells.lookup x = some c→c ≠ it) (h3:∀ p ∈ X.pn++pins,p.1 ≠ it):Inv X pins σ H { s with heap:=h',toks:=t' }:=by
 have nit:∀ b u,H b = some u→b ≠ it:=fun b u e z=>by rw [z,hn] at e; cases e
 refine I.step (g':=s.gens) (d':=s.drawn) (ch:=[it]) (fun b hb=>?_) (fun b o _ _ hc e _=>k b o (fun z=>hc (by simp [z])) e) (fun b o _ _ hc e _=>⟨o.slots,k b o (fun z=>hc (by simp [z])) e⟩) (fun _ _ _ _ n=>n)
  (fun b o hc e=>⟨o,k b o (fun z=>hc (by simp [z])) e⟩) (fun _ _ e=>e) (fun _ _ _ e=>e) (fun b ps e=>⟨#[],by rw [e]; simp⟩) (fun m hm=>?_) (fun b u e=>?_) I.bare
 ·have e:b = it:=by simpa using hb
  subst e
  exact ⟨h1,hL,h2,h3⟩
 ·obtain ⟨o,es,ep,ho,r⟩:=hm
  exact ⟨o,es,ep,k _ o (Ne.symm hL) ho,r⟩
 ·refine (I.hok b u e).stay (fun c v hc q=>k c v ?_ q) (fun _ q=>q) fun _ _ q=>q
  rcases hc with z | z
  ·rw [z]; exact nit b u e
  ·exact nit c _ z
theorem Inv.tok (I:Inv X pins σ H s) (t:Nat):Inv X pins σ H { s with toks:=t }:=I.un (h':=s.heap) (t':=t) Un.refl I.hok
theorem Inv.kept {t':Nat} (I:Inv X pins σ H s) (k:∀ b u,s.heap.get? b = some u→h'.get? b = some u):Inv X pins σ H { s with heap:=h',toks:=t' }:=I.un (Un.kept k) (I.hok.kept k)
theorem Inv.laid {a:Addr} {o:HO} {t':Nat} (I:Inv X pins σ H s) (k:∀ b u,s.heap.get? b = some u→h'.get? b = some u) (hp:s.heap.objs.size≤a) (new:ObjOk X.prog X.w (upd H a o) h' a o) :
  Inv X pins σ (upd H a o) { s with heap:=h',toks:=t' }:=I.un (Un.laid k hp (I.hok.fresh hp)) (I.hok.laid k hp new)
theorem Inv.write {x e:Addr} {o:HO} {t':Nat} (I:Inv X pins σ H s) (mu:Mut (H x)) (he:e = x∨H e = some (.own x)) (k:∀ b u,b ≠ e→s.heap.get? b = some u→h'.get? b = some u) (heo:∃ u,h'.get? e = some u)
  (new:ObjOk X.prog X.w (upd H x o) h' x o):Inv X pins σ (upd H x o) { s with heap:=h',toks:=t' }:=I.un (Un.write mu he k heo) (I.hok.write mu he k heo new)
theorem Inv.weak {σ':List (Option V)} (I:Inv X pins σ H s) (hl:σ'.length = σ.length) (w:∀ (i:Nat) v,σ'[i]? = some (some v)→σ[i]? = some (some v)):Inv X pins σ' H s :=
 ⟨I.ok,I.os,I.bare,I.base,let ⟨m,hn,hl'⟩:=I.loc; ⟨m,hn,fun i x v e1 e2 e3=>hl' i x v e1 (w i v e2) e3⟩,I.cell,I.free,I.freeC,I.pin,I.hok,hl.trans I.len⟩
theorem Inv.pins_of {pins':List (Addr×Obj)} (I:Inv X pins σ H s) (h:∀ p ∈ pins',s.heap.get? p.1 = some p.2∧H p.1 = none∧p.1 ≠ X.env.locals∧p.1 ∉ X.fs∧∀ v,p.2.data ≠ .cell v):Inv X pins' σ H s :=
 ⟨I.ok,I.os,I.bare,I.base,I.loc,I.cell,I.free,I.freeC,fun p hp=>(List.mem_append.mp hp).elim (fun z=>I.pin p (List.mem_append_left _ z)) (h p),I.hok,I.len⟩
theorem nodup_ix {N:List Str} (hN:N.Nodup) {i j:Nat} {x:Str} (a:N[i]? = some x) (b:N[j]? = some x):i = j:=by
 obtain ⟨h1,e1⟩:=List.getElem?_eq_some_iff.mp a
 obtain ⟨h2,e2⟩:=List.getElem?_eq_some_iff.mp b
 exact (List.getElem_inj hN).mp (e1.trans e2.symm)
theorem store_ok2 {M:Model} {A:Around} {E:Value→Shared→Prop} {i:Nat} {x:Str} {v:V} {u:Value} {Q:Unit→Shared→Prop} (I:Inv X pins σ H s) (hN:X.N.Nodup) (hi:X.N[i]? = some x) (hx:Loc X.env.scope x) (r:RelV v u)
  (h:∀ s',Inv X pins (σ.set i (some v)) H s'→(∃ a,Heap.SameBut a s.heap s'.heap∧(a = X.env.locals∨X.env.cells.lookup x = some a))→Q () s') (hf:X.fn x = true∨X.env.scope.names.lookup x = some .local:=by first | exact .inl rfl | exact .inr rfl | assumption):wpAny M A (storeName X.env x u) Q E s:=by
 obtain ⟨m,hn,hl⟩:=id I.loc
 have hcls:(X.env.scope.kind == .class || (X.env.scope.kind == .module && X.env.locals != X.env.globals)) = false:=by rw [I.ok.kind]; rfl
 have hiσ:i < σ.length:=by rw [I.len]; exact (List.getElem?_eq_some_iff.mp hi).1
 have cne:=I.cne
 have tracked:∀ {a:Addr} {h':Heap},(∃ o,s.heap.get? a = some o∧H a = none)→Heap.SameBut a s.heap h'→HOk X.prog X.w H h':=fun {a h'} ha hs b ob e=>by
  obtain ⟨_,_,hfree⟩:=ha
  refine (I.hok b ob e).stay (fun c w' hc q=>(hs.2 c ?_).trans q) (fun _ q=>q) fun _ _ q=>q
  rintro rfl
  rcases hc with rfl | hc
  ·rw [hfree] at e; cases e
  ·rw [hfree] at hc; cases hc
 rcases hx with hk | hk
 ·refine wpAny_storeName_local hk hn (fun h' hn' hs=>?_) hcls
  obtain ⟨oL,_,_,hoL,_⟩:=id hn
  refine h _ ⟨I.ok,I.os,I.bare,⟨fun b o e n hb hx=>?_,fun b o e n hb hx=>?_,I.base.free,fun b o e hx=>?_,I.base.tups,I.base.frzs,I.base.tbls⟩,⟨_,hn',fun j y v' e1 e2 e3=>?_⟩,fun y c e=>?_,I.free,I.freeC,fun p hp=>?_,tracked ⟨oL,hoL,I.free⟩ hs,by simpa using I.len⟩ ⟨_,hs,.inl rfl⟩
  ·exact (hs.2 b (Nat.ne_of_lt (Nat.lt_of_lt_of_le (Heap.lt_size e) I.ok.above))).trans (I.base.keep b o e n hb hx)
  ·obtain ⟨sl,e1⟩:=I.base.slot b o e n hb hx
   exact ⟨sl,(hs.2 b (Nat.ne_of_lt (Nat.lt_of_lt_of_le (Heap.lt_size e) I.ok.above))).trans e1⟩
  ·obtain ⟨o',e1⟩:=I.base.there b o e hx
   exact ⟨o',(hs.2 b (Nat.ne_of_lt (Nat.lt_of_lt_of_le (Heap.lt_size e) I.ok.above))).trans e1⟩
  ·by_cases hj:j = i
   ·subst hj
    rw [hi] at e1; cases e1
    rw [List.getElem?_set_self hiσ] at e2
    cases e2
    exact ⟨u,r,.inl ⟨hk,by simp⟩⟩
   ·rw [List.getElem?_set_ne (Ne.symm hj)] at e2
    obtain ⟨u',r',q⟩:=hl j y v' e1 e2 e3
    refine ⟨u',r',?_⟩
    rcases q with ⟨k,e⟩ | ⟨k,c,e,z⟩
    ·refine .inl ⟨k,?_⟩
     have:y ≠ x:=fun e=>hj (nodup_ix hN e1 (e ▸ hi))
     simp [this,e]
    ·exact .inr ⟨k,c,e,z.sameBut hs (cne y c e)⟩
  ·obtain ⟨w',z⟩:=I.cell y c e
   exact ⟨w',z.sameBut hs (cne y c e)⟩
  ·obtain ⟨e,n,ne,nf,d⟩:=I.pin p hp
   exact ⟨(hs.2 p.1 ne).trans e,n,ne,nf,d⟩
 ·have hfn:X.fn x = true:=by
   rcases hf with z | z
   ·exact z
   ·rw [z] at hk; cases hk
  obtain ⟨c,hc⟩:=I.ok.has x (.inl hk)
  obtain ⟨w',z⟩:=I.cell x c hc
  refine wpAny_storeName_cell I.ok.kind hk hc z (fun h' hc' hs=>?_)
  obtain ⟨oc,hoc,hocd⟩:=id z
  refine h { s with heap:=h' } ⟨I.ok,I.os,I.bare,⟨fun b o e n hb hx=>?_,fun b o e n hb hx=>?_,I.base.free,fun b o e hx=>?_,I.base.tups,I.base.frzs,I.base.tbls⟩,⟨m,hn.sameBut hs (Ne.symm (cne x c hc)),fun j y v' e1 e2 e3=>?_⟩,fun y c' e=>?_,I.free,I.freeC,fun p hp=>?_,tracked ⟨oc,hoc,I.freeC x c hc⟩ hs,by simpa using I.len⟩ ⟨c,hs,.inr hc⟩
  ·exact (hs.2 b (Nat.ne_of_lt (Nat.lt_of_lt_of_le (Heap.lt_size e) (I.ok.cab x c hfn hc)))).trans (I.base.keep b o e n hb hx)
  ·obtain ⟨sl,e1⟩:=I.base.slot b o e n hb hx
   exact ⟨sl,(hs.2 b (Nat.ne_of_lt (Nat.lt_of_lt_of_le (Heap.lt_size e) (I.ok.cab x c hfn hc)))).trans e1⟩
  ·obtain ⟨o',e1⟩:=I.base.there b o e hx
   exact ⟨o',(hs.2 b (Nat.ne_of_lt (Nat.lt_of_lt_of_le (Heap.lt_size e) (I.ok.cab x c hfn hc)))).trans e1⟩
  ·by_cases hj:j = i
   ·subst hj
    rw [hi] at e1; cases e1
    rw [List.getElem?_set_self hiσ] at e2
    cases e2
    exact ⟨u,r,.inr ⟨.inl hk,c,hc,hc'⟩⟩
   ·rw [List.getElem?_set_ne (Ne.symm hj)] at e2
    obtain ⟨u',r',q⟩:=hl j y v' e1 e2 e3
    refine ⟨u',r',?_⟩
    rcases q with q | ⟨k,c',e,z'⟩
    ·exact .inl q
    ·refine .inr ⟨k,c',e,z'.sameBut hs ?_⟩
     rintro rfl
     exact hj (nodup_ix hN e1 (I.ok.inj _ _ _ e hc ▸ hi))
  ·by_cases hcc:c' = c
   ·subst hcc; exact ⟨_,hc'⟩
   ·obtain ⟨w2,z2⟩:=I.cell y c' e
    exact ⟨w2,z2.sameBut hs hcc⟩
  ·obtain ⟨e,n,ne,nf,d⟩:=I.pin p hp
   refine ⟨(hs.2 p.1 ?_).trans e,n,ne,nf,d⟩
   intro q
   rw [q,hoc] at e
   have q':oc = p.2:=Option.some.inj e
   exact d w' (by rw [← q']; exact hocd)
theorem store_ok {M:Model} {A:Around} {E:Value→Shared→Prop} {i:Nat} {x:Str} {v:V} {u:Value} {Q:Unit→Shared→Prop} (I:Inv X pins σ H s) (hN:X.N.Nodup) (hi:X.N[i]? = some x) (hx:Loc X.env.scope x) (r:RelV v u)
  (h:∀ s',Inv X pins (σ.set i (some v)) H s'→Q () s') (hf:X.fn x = true∨X.env.scope.names.lookup x = some .local:=by first | exact .inl rfl | exact .inr rfl | assumption):wpAny M A (storeName X.env x u) Q E s :=
 store_ok2 I hN hi hx r (fun s' I' _=>h s' I') hf
theorem Inv.call' {s':Shared} {ch:List Addr} (I:Inv X pins σ H s) (ho:s'.os = s.os) (u:Un (frs X.stack) ch H H' s.heap s'.heap) (hok:HOk X.prog X.w H' s'.heap) (hg:AllBare s'.gens)
  (hch:∀ b ∈ ch,(b ∈ X.ex∨X.s₀.heap.objs.size≤b)∧b ≠ X.env.locals∧(∀ x c,X.env.cells.lookup x = some c→c ≠ b)∧∀ p ∈ X.pn++pins,p.1 ≠ b):Inv X pins σ H' s':=by
 obtain ⟨h',g',d',t',o'⟩:=s'
 have e:o' = s.os:=ho
 subst e
 exact I.call (g':=g') (t':=t') (d':=d') u hok hg hch
end
abbrev XK:=Value→Option Addr→Hp→Prop
abbrev St:=List (Option V)
abbrev VK:=V→Hp→Prop
abbrev TE:=St→Hp→VK→Prop
abbrev TT:=St→Hp→(Bool→Hp→Prop)→Prop
abbrev TA:=St→Hp→(List V→Hp→Prop)→Prop
structure Ends where
 nx:St→Hp→Prop
 rt:VK
 bk:St→Hp→Prop:=fun _ _=>False
 ct:St→Hp→Prop:=fun _ _=>False
abbrev TS:=Ends→St→Hp→Prop
def EP (X:Cx) (pins:List (Addr×Obj)) (σ:St) (Q:VK) (u:Value) (s':Shared):Prop:=∃ v H',Inv X pins σ H' s'∧RelV v u∧Q v H'
def TP (X:Cx) (pins:List (Addr×Obj)) (σ:St) (Q:Bool→Hp→Prop) (b:Bool) (s':Shared):Prop:=∃ H',Inv X pins σ H' s'∧Q b H'
def AP (X:Cx) (pins:List (Addr×Obj)) (σ:St) (Q:List V→Hp→Prop) (us:List Value) (s':Shared):Prop:=∃ vs H',Inv X pins σ H' s'∧Vals vs us∧Q vs H'
def SP (X:Cx) (pins:List (Addr×Obj)) (D:Ends) (f:Flow) (s':Shared):Prop :=
 match f with
 | .next=>∃ σ' H',Inv X pins σ' H' s'∧D.nx σ' H'
 | .brk=>∃ σ' H',Inv X pins σ' H' s'∧D.bk σ' H'
 | .cont=>∃ σ' H',Inv X pins σ' H' s'∧D.ct σ' H'
 | .ret u=>∃ v σ' H',Inv X pins σ' H' s'∧RelV v u∧D.rt v H'
def PE (X:Cx) (e:Expr) (t:TE):Prop :=
 ∀ (pins:List (Addr×Obj)) (s:Shared) (σ:St) (H:Hp) (Q:VK),Inv X pins σ H s→t σ H Q→wpAny (model X.prog X.w) X.A (eval e X.env) (EP X pins σ Q) X.xe s
def PT (X:Cx) (e:Expr) (t:TT):Prop :=
 ∀ (pins:List (Addr×Obj)) (s:Shared) (σ:St) (H:Hp) (Q:Bool→Hp→Prop),Inv X pins σ H s→t σ H Q→wpAny (model X.prog X.w) X.A (isTrue e X.env (eval e X.env)) (TP X pins σ Q) X.xe s
def PW (X:Cx) (e:Expr) (t:TT):Prop :=
 ∀ (whole:Sem Value) (pins:List (Addr×Obj)) (s:Shared) (σ:St) (H:Hp) (Q:Bool→Hp→Prop),Inv X pins σ H s→t σ H Q→wpAny (model X.prog X.w) X.A (isTrue e X.env whole) (TP X pins σ Q) X.xe s
theorem PW.pt {X:Cx} {e:Expr} {t:TT} (h:PW X e t):PT X e t:=h _
def PA (X:Cx) (es:List Expr) (t:TA):Prop :=
 ∀ (pos:Pos) (pins:List (Addr×Obj)) (s:Shared) (σ:St) (H:Hp) (Q:List V→Hp→Prop),Inv X pins σ H s→t σ H Q→wpAny (model X.prog X.w) X.A (spliced (backTo pos (starEach es X.env))) (AP X pins σ Q) X.xe s
def PS (X:Cx) (st:Stmt) (t:TS):Prop :=
 ∀ (pins:List (Addr×Obj)) (s:Shared) (σ:St) (H:Hp) (D:Ends),Inv X pins σ H s→t D σ H→wpAny (model X.prog X.w) X.A (exec st X.env) (SP X pins D) X.xe s
def PSs (X:Cx) (st:List Stmt) (t:TS):Prop :=
 ∀ (pins:List (Addr×Obj)) (s:Shared) (σ:St) (H:Hp) (D:Ends),Inv X pins σ H s→t D σ H→wpAny (model X.prog X.w) X.A (execs st X.env) (SP X pins D) X.xe s
theorem thn {α:Type} {t:Sem α} {Q Q':α→Shared→Prop} {M:Model} {A:Around} {E:Value→Shared→Prop} {s:Shared} (h:wpAny M A t Q E s) (hQ:∀ a s,Q a s→Q' a s):wpAny M A t Q' E s:=wpAny_mono h hQ fun _ _ x=>x
end L2
namespace L2
open PySem PySem.Spec PyProof.Rows
section
variable {X:Cx}
theorem bin {a b:Expr} {ta tb:TE} (ha:PE X a ta) (hb:PE X b tb) {pins:List (Addr×Obj)} {s:Shared} {σ:St} {H:Hp} {R:V→V→Hp→Prop} (I:Inv X pins σ H s) (h:ta σ H fun x H1=>tb σ H1 fun y H2=>R x y H2)
  {α:Type} {Q:α→Shared→Prop} {f:Value→Value→Sem α}
  (hf:∀ v u s2 x y H2,Inv X pins σ H2 s2→RelV x v→RelV y u→R x y H2→wpAny (model X.prog X.w) X.A (f v u) Q X.xe s2) :
  wpAny (model X.prog X.w) X.A (eval a X.env) (fun v s₁=>wpAny (model X.prog X.w) X.A (eval b X.env) (fun u s₂=>wpAny (model X.prog X.w) X.A (f v u) Q X.xe s₂) X.xe s₁) X.xe s:=by
 refine thn (ha pins s σ H _ I h) fun v s1 ⟨x,H1,I1,r1,q1⟩=>?_
 refine thn (hb pins s1 σ H1 _ I1 q1) fun u s2 ⟨y,H2,I2,r2,q2⟩=>?_
 exact hf v u s2 x y H2 I2 r1 r2 q2
def tVar (i:Nat):TE:=fun σ H Q=>∃ v,σ[i]? = some (some v)∧Q v H
def tC (v:V):TE:=fun _ H Q=>Q v H
theorem pe_var {i:Nat} {x:Str} {pos:Pos} (hN:X.N[i]? = some x) (hv:Vis X.env.scope x) (hd:(x == ("__debug__":Str)) = false:=by decide) (hcd:(x == ("__classdict__":Str)) = false:=by decide):PE X (.Name x pos) (tVar i):=by
 intro pins s σ H Q I h
 obtain ⟨v,e,h⟩:=h
 obtain ⟨m,hn,hl⟩:=I.loc
 obtain ⟨u,r,l⟩:=hl i x v hN e hv
 have fin:EP X pins σ Q u s:=⟨v,H,I,r,h⟩
 rcases l with ⟨hk,hm⟩ | ⟨hk,c,hc,hcell⟩
 ·exact wpAny_Name (wpAny_loadName_local I.ok.kind hk hn hm fin) hd
 ·rcases hk with hk | hk
  ·exact wpAny_Name (wpAny_loadName_cell I.ok.kind hk hc hcell fin) hd
  ·exact wpAny_Name (wpAny_loadName_free I.ok.kind hk hc hcell fin hcd) hd
theorem pe_int {i j pos}:PE X (.Constant (.int i) j pos) (tC (.int i)):=fun _ _ _ H _ I h=>wpAny_Constant_int ⟨.int i,H,I.tok _,⟨_,rfl⟩,h⟩
theorem pe_bl {b j pos}:PE X (.Constant (.bool b) j pos) (tC (.bl b)):=fun _ _ _ H _ I h=>Constant_bool ⟨.bl b,H,I,rfl,h⟩
theorem pe_non {j pos}:PE X (.Constant .none j pos) (tC .non):=fun _ _ _ H _ I h=>Constant_none ⟨.non,H,I,rfl,h⟩
theorem pe_str {x j pos}:PE X (.Constant (.str x) j pos) (tC (.str x)):=fun _ _ _ H _ I h=>Calls.Constant_str ⟨.str x,H,I.tok _,⟨_,rfl⟩,h⟩
def Gl (X:Cx) (x:Str):Prop:=X.env.kindOf x = some .globalImplicit
theorem ld_glob {E:Value→Shared→Prop} {pins:List (Addr×Obj)} {s:Shared} {σ:St} {H:Hp} {x:Str} {u:Value} {pos:Pos} {Q:Value→Shared→Prop} (I:Inv X pins σ H s) (hg:Gl X x) (hm:X.mg x = some u) (h:Q u s)
  (hd:(x == ("__debug__":Str)) = false:=by decide):wpAny (model X.prog X.w) X.A (eval (.Name x pos) X.env) Q E s :=
 Calls.Name_function_global I.ok.kind hg (Calls.loadGlobal_global (by rw [I.ok.glob]; exact I.mod.glob.keeps I.bk) hm h) hd
theorem ld_blt {E:Value→Shared→Prop} {pins:List (Addr×Obj)} {s:Shared} {σ:St} {H:Hp} {x:Str} {u:Value} {pos:Pos} {Q:Value→Shared→Prop} (I:Inv X pins σ H s) (hg:Gl X x) (hm:X.mg x = none) (hv:bootBuiltins x = some u) (h:Q u s)
  (hn:x ≠ "__name__":=by decide) (hd:(x == ("__debug__":Str)) = false:=by decide):wpAny (model X.prog X.w) X.A (eval (.Name x pos) X.env) Q E s:=by
 obtain ⟨mb,h1,h2⟩:=I.mod.blt
 exact Calls.Name_function_global I.ok.kind hg (Calls.loadGlobal_builtin (by rw [I.ok.glob]; exact I.mod.glob.keeps I.bk) hm (by rw [I.ok.blt]; exact h1.keeps I.bk) ((h2 x hn).trans hv) h) hd
theorem pe_glob {x:Str} {v:V} {u:Value} {pos:Pos} (hg:Gl X x) (hm:X.mg x = some u) (r:RelV v u) (hd:(x == ("__debug__":Str)) = false:=by decide):PE X (.Name x pos) (tC v) :=
 fun _ _ _ H _ I h=>ld_glob I hg hm ⟨v,H,I,r,h⟩ hd
theorem pe_bltn {x:Str} {v:V} {u:Value} {pos:Pos} (hg:Gl X x) (hm:X.mg x = none) (hv:bootBuiltins x = some u) (r:RelV v u) (hn:x ≠ "__name__":=by decide) (hd:(x == ("__debug__":Str)) = false:=by decide):PE X (.Name x pos) (tC v) :=
 fun _ _ _ H _ I h=>ld_blt I hg hm hv ⟨v,H,I,r,h⟩ hn hd
variable {a b:Expr} {ta tb:TE} {pos:Pos}
def PC (X:Cx) (op:CmpOp) (a b:Expr) (t:TE):Prop :=
 ∀ (pins:List (Addr×Obj)) (s:Shared) (σ:St) (H:Hp) (Q:VK),Inv X pins σ H s→t σ H Q →
  wpAny (model X.prog X.w) X.A (eval a X.env) (fun v s₁=>wpAny (model X.prog X.w) X.A (eval b X.env) (fun u s₂=>wpAny (model X.prog X.w) X.A (compareOp op v u) (EP X pins σ Q) X.xe s₂) X.xe s₁) X.xe s
theorem nobehind (b:Expr) {op:CmpOp} (h:op ≠ .In) (h2:op ≠ .NotIn):behindInMarks op b = false:=by
 have e1:(op == CmpOp.In) = false:=by cases op <;> first | rfl | exact absurd rfl h
 have e2:(op == CmpOp.NotIn) = false:=by cases op <;> first | rfl | exact absurd rfl h2
 cases b <;> simp [behindInMarks,e1,e2]
def tNotN (ta:TE):TE:=fun σ H Q=>ta σ H fun x H1=>Q (.bl (!decide (x = .non))) H1
theorem RelV.none_iff {x:V} {v:Value} (r:RelV x v):(v == Value.none) = decide (x = .non):=by
 cases x with
 | non=>cases r; rfl
 | bl _=>cases r; rfl
 | int _=>obtain ⟨t,rfl⟩:=r; rfl
 | str _=>obtain ⟨t,rfl⟩:=r; rfl
 | byt _=>obtain ⟨t,rfl⟩:=r; rfl
 | flt _=>obtain ⟨t,rfl⟩:=r; rfl
 | ref _=>cases r; rfl
 | ty _=>cases r; rfl
theorem pc_notN {j pos'} (ha:PE X a ta):PC X .IsNot a (.Constant .none j pos') (tNotN ta):=by
 intro pins s σ H Q I h
 refine thn (ha pins s σ H _ I h) fun v s1 ⟨x,H1,I1,r1,q1⟩=>?_
 exact Constant_none (isnot_none_gen ⟨.bl _,H1,I1,by rw [r1.none_iff]; rfl,q1⟩)
def tB (t:TE):TT:=fun σ H Q=>t σ H fun x H1=>∃ c,x = .bl c∧Q c H1
theorem pt_cmp {op:CmpOp} {t:TE} (h:PC X op a b t) (h1:behindInMarks op b = false:=by first | exact nobehind _ (by decide) (by decide) | rfl):PT X (.Compare a [op] [b] pos) (tB t):=by
 intro pins s σ H Q I hw
 refine wpAny_isTrue_Compare1 (thn (h pins s σ H _ I hw) fun v s1 h1=>thn h1 fun u s2 h2=>thn h2 fun c s3 ⟨x,H1,I1,r1,q1⟩=>?_) h1
 obtain ⟨d,rfl,q⟩:=q1
 cases r1
 exact wpAny_truthy_bool ⟨H1,I1,q⟩
theorem pt_val {e:Expr} {t:TE} (h:PE X e t) (he:∀ whole,isTrue e X.env whole = (do let v ← whole; standAt e.pos; holding [v] (truthy v)):=by intro _; rfl):PT X e (tB t):=by
 intro pins s σ H Q I hw
 refine isTrue_plain (thn (h pins s σ H _ I hw) fun v s1 ⟨x,H1,I1,r1,q1⟩=>?_) (he _)
 obtain ⟨d,rfl,q⟩:=q1
 cases r1
 exact wpAny_truthy_bool ⟨H1,I1,q⟩
variable {tA tB':TT} {rest:List Expr}
def tAnd (t u:TT):TT:=fun σ H Q=>t σ H fun c H1=>if c = true then u σ H1 Q else Q false H1
def tOr (t u:TT):TT:=fun σ H Q=>t σ H fun c H1=>if c = true then Q true H1 else u σ H1 Q
def tNot (t:TT):TT:=fun σ H Q=>t σ H fun c H1=>Q (!c) H1
theorem pw_and1 (ha:PT X a tA):PW X (.BoolOp .And [a] pos) tA:=by
 intro wh pins s σ H Q I h
 refine isTrue_and (thn (ha pins s σ H Q I h) fun c s1 e=>?_)
 cases c with
 | true=>exact isTrue_and_nil e
 | false=>exact e
theorem pw_or1 (ha:PT X a tA):PW X (.BoolOp .Or [a] pos) tA:=by
 intro wh pins s σ H Q I h
 refine isTrue_or (thn (ha pins s σ H Q I h) fun c s1 e=>?_)
 cases c with
 | false=>exact isTrue_or_nil e
 | true=>exact e
theorem pw_and (ha:PT X a tA) (hb:PW X (.BoolOp .And (b :: rest) pos) tB'):PW X (.BoolOp .And (a :: b :: rest) pos) (tAnd tA tB'):=by
 intro wh pins s σ H Q I h
 refine isTrue_and (thn (ha pins s σ H _ I h) fun c s1 ⟨H1,I1,q1⟩=>?_)
 cases c with
 | true=>exact hb wh pins s1 σ H1 Q I1 q1
 | false=>exact ⟨H1,I1,q1⟩
theorem pw_or (ha:PT X a tA) (hb:PW X (.BoolOp .Or (b :: rest) pos) tB'):PW X (.BoolOp .Or (a :: b :: rest) pos) (tOr tA tB'):=by
 intro wh pins s σ H Q I h
 refine isTrue_or (thn (ha pins s σ H _ I h) fun c s1 ⟨H1,I1,q1⟩=>?_)
 cases c with
 | true=>exact ⟨H1,I1,q1⟩
 | false=>exact hb wh pins s1 σ H1 Q I1 q1
theorem pt_not (ha:PT X a tA):PT X (.UnaryOp .Not a pos) (tNot tA):=by
 intro pins s σ H Q I h
 exact isTrue_not (ha pins s σ H (fun c H1=>Q (!c) H1) I h)
end
end L2
namespace L2
open PySem PySem.Spec PyProof.Rows
def SqL (K:PySem.W.Frag) (H:Hp) (a:Addr) (xs:List V):Prop :=
 Rd H a (.lst xs) ∨
  ∃ (o:Obj) (its:Array Value) (n:Nat),K.lookup a = some o∧o.cls = .type "list"∧o.dict = none∧o.data = .seq its n∧its.size≤sizeLine∧Vals xs its.toList
def SqT (K:PySem.W.Frag) (H:Hp) (a:Addr) (xs:List V):Prop :=
 Rd H a (.tup xs) ∨
  ∃ (o:Obj) (its:Array Value) (n:Nat),K.lookup a = some o∧o.cls = .type "tuple"∧o.data = .seq its n∧its.size≤sizeLine∧Vals xs its.toList
def absV:Value→Option V
 | .none=>some .non
 | .bool b=>some (.bl b)
 | .int i _=>some (.int i)
 | .str x _=>some (.str x)
 | .bytes b _=>some (.byt b)
 | .float b _=>some (.flt b)
 | .ref a=>some (.ref a)
 | .type n=>some (.ty n)
 | _=>none
theorem RelV.abs {x:V} {u:Value} (r:RelV x u):absV u = some x:=by
 cases x with
 | non=>cases r; rfl
 | bl _=>cases r; rfl
 | int _=>obtain ⟨t,rfl⟩:=r; rfl
 | str _=>obtain ⟨t,rfl⟩:=r; rfl
 | byt _=>obtain ⟨t,rfl⟩:=r; rfl
 | flt _=>obtain ⟨t,rfl⟩:=r; rfl
 | ref _=>cases r; rfl
 | ty _=>cases r; rfl
theorem RelV.inj {x y:V} {u:Value} (r:RelV x u) (q:RelV y u):x = y:=Option.some.inj (r.abs.symm.trans q.abs)
theorem Vals.inj:∀ {xs ys:List V} {us:List Value},Vals xs us→Vals ys us→xs = ys
 | _,_,_,.nil,.nil=>rfl
 | _,_,_,.cons r t,.cons r' t'=>by rw [r.inj r',Vals.inj t t']
section
variable {X:Cx} {pins:List (Addr×Obj)} {σ:St} {H:Hp} {s:Shared} {a:Addr} {xs ys:List V}
theorem SqL.of {K:PySem.W.Frag} (h:H a = some (.lst xs)):SqL K H a xs:=.inl (.inl h)
theorem SqT.of {K:PySem.W.Frag} (h:H a = some (.tup xs)):SqT K H a xs:=.inl (.inl h)
theorem Inv.list (I:Inv X pins σ H s) (h:SqL X.K H a xs):∃ its:List Value,Vals xs its∧PlainL s.heap a its.toArray∧xs.length≤sizeLine:=by
 rcases h with h | ⟨o,its,n,hk,hc,hd,hs,hz,r⟩
 ·obtain ⟨z,its,n,r,e⟩:=h.ok I.hok
  exact ⟨its,r,⟨_,n,e,rfl,rfl,rfl⟩,z⟩
 ·refine ⟨its.toList,r,⟨o,n,I.kIn a o hk,hc,hd,by simpa using hs⟩,?_⟩
  have e:=r.length
  simp only [Array.length_toList] at e
  omega
theorem Inv.tuple (I:Inv X pins σ H s) (h:SqT X.K H a xs):∃ its:List Value,Vals xs its∧IsTup s.heap a its.toArray∧xs.length≤sizeLine:=by
 rcases h with h | ⟨o,its,n,hk,hc,hs,hz,r⟩
 ·obtain ⟨z,its,r,p⟩:=h.ok I.hok
  exact ⟨its,r,p,z⟩
 ·refine ⟨its.toList,r,⟨o,I.kIn a o hk,hc,n,by simpa using hs⟩,?_⟩
  have e:=r.length
  simp only [Array.length_toList] at e
  omega
theorem Inv.list_inj (I:Inv X pins σ H s) (h:SqL X.K H a xs) (h':SqL X.K H a ys):xs = ys:=by
 obtain ⟨its,r,⟨o,n,e,_,_,d⟩,_⟩:=I.list h
 obtain ⟨its',r',⟨o',n',e',_,_,d'⟩,_⟩:=I.list h'
 rw [e] at e'; cases e'
 rw [d] at d'
 injection d' with d1 _
 have:its = its':=by simpa using congrArg Array.toList d1
 subst this
 exact r.inj r'
end
abbrev Cx.wish (X:Cx) (E:Value→Shared→Prop):Cx:={ X with xe:=E }
abbrev Cx.nox (X:Cx):Cx:=X.wish fun _ _=>False
theorem Cx.Ok.wish {X:Cx} (ok:X.Ok) (E:Value→Shared→Prop):(X.wish E).Ok :=
 ⟨ok.mod,ok.kind,ok.glob,ok.blt,ok.above,ok.inj,ok.has,ok.cab,ok.hd,ok.frames,ok.stk,ok.exf,ok.bs,ok.bsz,ok.noex,ok.exfs,ok.funs,ok.frf⟩
theorem Cx.Ok.unwish {X:Cx} {E:Value→Shared→Prop} (ok:(X.wish E).Ok):X.Ok :=
 ⟨ok.mod,ok.kind,ok.glob,ok.blt,ok.above,ok.inj,ok.has,ok.cab,ok.hd,ok.frames,ok.stk,ok.exf,ok.bs,ok.bsz,ok.noex,ok.exfs,ok.funs,ok.frf⟩
section
variable {X:Cx} {pins:List (Addr×Obj)} {σ:St} {H:Hp} {s:Shared} {E:Value→Shared→Prop}
theorem Inv.wish (I:Inv X pins σ H s) (E:Value→Shared→Prop):Inv (X.wish E) pins σ H s:=⟨I.ok.wish E,I.os,I.bare,I.base,I.loc,I.cell,I.free,I.freeC,I.pin,I.hok,I.len⟩
theorem Inv.unwish (I:Inv (X.wish E) pins σ H s):Inv X pins σ H s:=⟨I.ok.unwish,I.os,I.bare,I.base,I.loc,I.cell,I.free,I.freeC,I.pin,I.hok,I.len⟩
theorem SP.unwish {D:Ends} {f:Flow} {s':Shared} (h:SP (X.wish E) pins D f s'):SP X pins D f s':=by
 cases f with
 | next=>obtain ⟨σ',H',I,q⟩:=h; exact ⟨σ',H',I.unwish,q⟩
 | brk=>obtain ⟨σ',H',I,q⟩:=h; exact ⟨σ',H',I.unwish,q⟩
 | cont=>obtain ⟨σ',H',I,q⟩:=h; exact ⟨σ',H',I.unwish,q⟩
 | ret u=>obtain ⟨v,σ',H',I,r,q⟩:=h; exact ⟨v,σ',H',I.unwish,r,q⟩
theorem PE.nox {e:Expr} {t:TE} (h:PE X.nox e t):PE X e t:=fun pins s σ H Q I hw =>
 wpAny_mono (h pins s σ H Q (I.wish _) hw) (fun _ _ ⟨v,H',I',r,q⟩=>⟨v,H',I'.unwish,r,q⟩) fun _ _ z=>False.elim z
theorem PT.nox {e:Expr} {t:TT} (h:PT X.nox e t):PT X e t:=fun pins s σ H Q I hw =>
 wpAny_mono (h pins s σ H Q (I.wish _) hw) (fun _ _ ⟨H',I',q⟩=>⟨H',I'.unwish,q⟩) fun _ _ z=>False.elim z
theorem PSs.nox {st:List Stmt} {t:TS} (h:PSs X.nox st t):PSs X st t:=fun pins s σ H D I hw =>
 wpAny_mono (h pins s σ H D (I.wish _) hw) (fun _ _ q=>q.unwish) fun _ _ z=>False.elim z
end
section
variable {X:Cx} {st:Stmt} {rest:List Stmt} {t u:TS} {e:Expr} {te:TE} {pos:Pos}
def tNext:TS:=fun D σ H=>D.nx σ H
def tSeq (t u:TS):TS:=fun D σ H=>t { D with nx:=u D } σ H
theorem pss_nil:PSs X [] tNext:=fun _ _ σ H _ I h=>wpAny_execs_nil ⟨σ,H,I,h⟩
theorem pss_cons (h1:PS X st t) (h2:PSs X rest u):PSs X (st :: rest) (tSeq t u):=by
 intro pins s σ H D I h
 refine wpAny_execs_cons (thn (h1 pins s σ H { D with nx:=u D } I h) fun f s1 q=>?_)
 cases f with
 | next =>
  obtain ⟨σ',H',I',q⟩:=q
  exact h2 pins s1 σ' H' D I' q
 | ret v=>exact q
 | brk=>exact q
 | cont=>exact q
theorem pss_one (h1:PS X st t):PSs X [st] t:=by
 intro pins s σ H D I h
 refine wpAny_execs_cons (thn (h1 pins s σ H D I h) fun f s1 q=>?_)
 cases f with
 | next=>exact wpAny_execs_nil q
 | ret v=>exact q
 | brk=>exact q
 | cont=>exact q
theorem Inv.quiet {pins:List (Addr×Obj)} {σ:St} {H:Hp} {s:Shared} (I:Inv X pins σ H s):interactive X.env = false:=by simp [interactive,I.ok.kind]
def tDrop (te:TE):TS:=fun D σ H=>te σ H fun _ H1=>D.nx σ H1
theorem ps_expr (he:PE X e te) (hs:swapsWith e none pos.line X.env = pure false:=by rfl):PS X (.Expr e pos) (tDrop te):=by
 intro pins s σ H D I h
 exact wpAny_Expr_any (thn (he pins s σ H _ I h) fun v s1 ⟨x,H1,I1,r1,q1⟩=>⟨σ,H1,I1,q1⟩) I.quiet hs
def tRet (te:TE):TS:=fun D σ H=>te σ H D.rt
theorem ps_ret (he:PE X e te):PS X (.Return (some e) pos) (tRet te):=by
 intro pins s σ H D I h
 exact wpAny_Return_some (thn (he pins s σ H _ I h) fun v s1 ⟨x,H1,I1,r1,q1⟩=>⟨x,σ,H1,I1,r1,q1⟩)
def tIfS (c:TT) (t u:TS):TS:=fun D σ H=>c σ H fun b H1=>if b = true then t D σ H1 else u D σ H1
theorem ps_if {c:Expr} {a b:List Stmt} {tc:TT} (hc:PT X c tc) (ha:PSs X a t) (hb:PSs X b u):PS X (.If c a b pos) (tIfS tc t u):=by
 intro pins s σ H D I h
 refine wpAny_If (thn (hc pins s σ H _ I h) fun d s1 ⟨H1,I1,q1⟩=>?_)
 cases d with
 | true=>exact ha pins s1 σ H1 D I1 q1
 | false=>exact hb pins s1 σ H1 D I1 q1
def tNever:TS:=fun _ _ _=>False
theorem pss_never {sts:List Stmt}:PSs X sts tNever:=fun _ _ _ _ _ _ h=>h.elim
end
abbrev TG:=V→St→Hp→(St→Hp→Prop)→Prop
abbrev TGs:=List V→St→Hp→(St→Hp→Prop)→Prop
def PG (X:Cx) (target:Expr) (t:TG):Prop :=
 ∀ (pins:List (Addr×Obj)) (s:Shared) (σ:St) (H:Hp) (v:V) (u:Value) (Q:St→Hp→Prop),Inv X pins σ H s→RelV v u→t v σ H Q →
  wpAny (model X.prog X.w) X.A (assign target X.env u) (fun _ s'=>∃ σ' H',Inv X pins σ' H' s'∧Q σ' H') X.xe s
def PGs (X:Cx) (ts:List Expr) (t:TGs):Prop :=
 ∀ (pins:List (Addr×Obj)) (s:Shared) (σ:St) (H:Hp) (vs:List V) (us:List Value) (Q:St→Hp→Prop),Inv X pins σ H s→Vals vs us→t vs σ H Q →
  wpAny (model X.prog X.w) X.A (assignInOrder ((assignEach ts X.env).map (·.2)) us) (fun _ s'=>∃ σ' H',Inv X pins σ' H' s'∧Q σ' H') X.xe s
abbrev TIp:=V→V→Hp→VK→Prop
def PIp (X:Cx) (op:Operator) (t:TIp):Prop :=
 ∀ (pins:List (Addr×Obj)) (s:Shared) (σ:St) (H:Hp) (x y:V) (v u:Value) (Q:VK),Inv X pins σ H s→RelV x v→RelV y u→t x y H Q →
  wpAny (model X.prog X.w) X.A (inplaceOp op v u) (EP X pins σ Q) X.xe s
section
variable {X:Cx} {pos:Pos}
def gName (i:Nat):TG:=fun v σ H Q=>Q (σ.set i (some v)) H
theorem pg_name {i:Nat} {x:Str} (hN:X.N.Nodup) (hi:X.N[i]? = some x) (hx:Loc X.env.scope x) (hf:X.fn x = true∨X.env.scope.names.lookup x = some .local:=by first | exact .inl rfl | exact .inr rfl | assumption):PG X (.Name x pos) (gName i):=by
 intro pins s σ H v u Q I r h
 exact wpAny_assign_Name (store_ok I hN hi hx r (fun s' I'=>⟨_,H,I',h⟩) hf)
def gNil:TGs:=fun vs σ H Q=>vs = []∧Q σ H
def gCons (t:TG) (u:TGs):TGs:=fun vs σ H Q=>∃ v r,vs = v :: r∧t v σ H fun σ' H'=>u r σ' H' Q
theorem pgs_nil:PGs X [] gNil:=by
 intro pins s σ H vs us Q I r h
 obtain ⟨e,h⟩:=h
 subst e
 cases r
 exact assignInOrder_nil ⟨σ,H,I,h⟩
theorem pgs_cons {e:Expr} {es:List Expr} {t:TG} {u:TGs} (h1:PG X e t) (h2:PGs X es u)
  (hs:(assignEach (e :: es) X.env).map (·.2) = assign e X.env :: (assignEach es X.env).map (·.2):=by rfl):PGs X (e :: es) (gCons t u):=by
 intro pins s σ H vs us Q I r h
 obtain ⟨v,vr,e1,h⟩:=h
 subst e1
 cases r with
 | cons r rr =>
  rw [hs]
  refine assignInOrder_cons (thn (h1 pins s σ H _ _ _ I r h) fun _ s1 ⟨σ1,H1,I1,q1⟩=>?_)
  exact h2 pins s1 σ1 H1 _ _ Q I1 rr q1
def gTup (K:PySem.W.Frag) (n:Nat) (t:TGs):TG:=fun v σ H Q=>∃ a xs,v = .ref a∧SqT K H a xs∧xs.length = n∧t xs σ H Q
theorem pg_tup {es:List Expr} {k:Nat} {t:TGs} {n:Nat} (hc:X.calm = true) (h:PGs X es t)
  (hn:(assignEach es X.env).length = n:=by rfl) (hst:(assignEach es X.env).findIdx? (·.1) = none:=by rfl):PG X (.Tuple es k pos) (gTup X.K n t):=by
 intro pins s σ H v u Q I r hw
 obtain ⟨a,xs,e1,hq,hl,hw⟩:=hw
 subst e1
 cases r
 obtain ⟨its,rv,ht,hz⟩:=I.tuple hq
 refine assign_Tuple_tuple (I.ok.hd hc) ht (by simp [hn,← hl,rv.length]) hst fun h' hx=>?_
 have I1:Inv X pins σ H { s with heap:=h' }:=I.kept (t':=s.toks) fun b o e=>hx b o (Nat.ne_of_lt (Heap.lt_size e)) e
 exact h pins _ σ H xs _ Q I1 (by simpa using rv) hw
def tAsg (te:TE) (g:TG):TS:=fun D σ H=>te σ H fun x H1=>g x σ H1 D.nx
theorem ps_set {i:Nat} {x:Str} {e:Expr} {te:TE} {pos':Pos} (hN:X.N.Nodup) (hi:X.N[i]? = some x) (hx:Loc X.env.scope x) (he:PE X e te) (hs:swapsWith e (some (.Name x pos')) pos.line X.env = pure false:=by rfl) (hf:X.fn x = true∨X.env.scope.names.lookup x = some .local:=by first | exact .inl rfl | exact .inr rfl | assumption) :
  PS X (.Assign [.Name x pos'] e pos) (tAsg te (gName i)):=by
 intro pins s σ H D I h
 refine wpAny_Assign_Name (thn (he pins s σ H _ I h) fun v s1 ⟨y,H1,I1,r1,q1⟩=>?_) hs
 exact store_ok I1 hN hi hx r1 (fun s2 I2=>⟨_,H1,I2,q1⟩) hf
def tAug (i:Nat) (te:TE) (ti:TIp):TS:=fun D σ H=>∃ x,σ[i]? = some (some x)∧te σ H fun y H1=>ti x y H1 fun z H2=>D.nx (σ.set i (some z)) H2
theorem ps_aug {i:Nat} {x:Str} {e:Expr} {te:TE} {op:Operator} {ti:TIp} {pos':Pos} (hN:X.N.Nodup) (hi:X.N[i]? = some x) (hx:Loc X.env.scope x) (he:PE X e te) (ho:PIp X op ti) (hf:X.fn x = true∨X.env.scope.names.lookup x = some .local:=by first | exact .inl rfl | exact .inr rfl | assumption) :
  PS X (.AugAssign (.Name x pos') op e pos) (tAug i te ti):=by
 intro pins s σ H D I h
 obtain ⟨v,e1,h⟩:=h
 obtain ⟨m,hn,hl⟩:=I.loc
 have vis:Vis X.env.scope x:=by rcases hx with k | k; exact .inl k; exact .inr (.inl k)
 obtain ⟨u,r,l⟩:=hl i x v hi e1 vis
 refine wpAny_AugAssign_Name ?_
 have go:wpAny (model X.prog X.w) X.A (eval e X.env) (fun w s₂=>wpAny (model X.prog X.w) X.A (inplaceOp op u w) (fun r s₃=>wpAny (model X.prog X.w) X.A (storeName X.env x r) (fun _=>SP X pins D .next) X.xe s₃) X.xe s₂) X.xe s:=by
  refine thn (he pins s σ H _ I h) fun w s1 ⟨y,H1,I1,r1,q1⟩=>?_
  refine thn (ho pins s1 σ H1 v y u w _ I1 r r1 q1) fun z s2 ⟨zv,H2,I2,r2,q2⟩=>?_
  exact store_ok I2 hN hi hx r2 (fun s3 I3=>⟨_,H2,I3,q2⟩) hf
 rcases l with ⟨hk,hm⟩ | ⟨hk,c,hc,hcell⟩
 ·exact wpAny_loadName_local I.ok.kind hk hn hm go
 ·rcases hk with hk | hk
  ·exact wpAny_loadName_cell I.ok.kind hk hc hcell go
  ·rcases hx with k | k
   ·have:X.env.scope.names.lookup x = some .free:=hk
    rw [k] at this; cases this
   ·have:X.env.scope.names.lookup x = some .free:=hk
    rw [k] at this; cases this
def ipI (f:Int→Int→Int):TIp:=fun x y H Q=>∃ i j,x = .int i∧y = .int j∧Q (.int (f i j)) H
theorem ip_add:PIp X .Add (ipI fun i j=>i+j):=by
 intro pins s σ H x y v u Q I r1 r2 h
 obtain ⟨i,j,e1,e2,q⟩:=h
 subst e1; subst e2
 obtain ⟨t,rfl⟩:=r1
 obtain ⟨t',rfl⟩:=r2
 exact iadd_int ⟨.int _,H,I.tok _,⟨_,rfl⟩,q⟩
end
section
variable {X:Cx} {pos:Pos}
def tWhile (c:TT) (tb:TS):TS:=fun D σ H=>∃ W:Nat→St→Hp→Prop,(∃ m,W m σ H)∧∀ m σ H,W m σ H →
 c σ H fun b H1=>if b = true then ∃ N:St→Hp→Prop,(∀ σ' H',N σ' H'→∃ m',m' < m∧W m' σ' H')∧tb { D with nx:=N,ct:=N,bk:=D.nx } σ H1 else D.nx σ H1
theorem ps_while {c:Expr} {body:List Stmt} {tc:TT} {tb:TS} (hp:PassesOwn (model X.prog X.w) X.A X.env X.xe) (hc:PT X c tc) (hb:PSs X body tb):PS X (.While c body [] pos) (tWhile tc tb):=by
 intro pins s σ H D I h
 obtain ⟨W,⟨m0,w0⟩,turn⟩:=h
 refine wpAny_While (codeAny_whileLoop (fun n s'=>∃ σ' H',Inv X pins σ' H' s'∧W n σ' H') ?_ m0 ⟨σ,H,I,w0⟩)
 rintro n s1 ⟨σ1,H1,I1,w1⟩
 refine wpAny_passesOwn hp (thn (hc pins s1 σ1 H1 _ I1 (turn n σ1 H1 w1)) fun b s2 ⟨H2,I2,q2⟩=>?_)
 cases b with
 | true =>
  obtain ⟨N,hN,q2⟩:=q2
  rw [if_pos rfl]
  refine wpAny_passesOwn hp (thn (hb pins s2 σ1 H2 _ I2 q2) fun f s3 q3=>?_)
  cases f with
  | next =>
   obtain ⟨σ3,H3,I3,n3⟩:=q3
   obtain ⟨m',hm,w3⟩:=hN σ3 H3 n3
   exact ⟨m',hm,σ3,H3,I3,w3⟩
  | cont =>
   obtain ⟨σ3,H3,I3,n3⟩:=q3
   obtain ⟨m',hm,w3⟩:=hN σ3 H3 n3
   exact ⟨m',hm,σ3,H3,I3,w3⟩
  | brk=>exact q3
  | ret v=>exact q3
 | false =>
  rw [if_neg Bool.false_ne_true]
  exact wpAny_execs_nil ⟨σ1,H2,I2,q2⟩
end
structure It where
 go:Nat→Hp→Prop
 yld:Nat→Hp→V→Hp→Prop
 stop:Nat→Hp→Prop
def FpOk (X:Cx) (pins:List (Addr×Obj)) (H:Hp) (b:Addr):Prop :=
 H b = none∧b ≠ X.env.locals∧b ∉ X.fs∧(b ∈ X.ex∨X.s₀.heap.objs.size≤b)∧(∀ x c,X.env.cells.lookup x = some c→c ≠ b)∧∀ p ∈ X.pn++pins,p.1 ≠ b
theorem Inv.fpOk {X:Cx} {pins:List (Addr×Obj)} {σ:St} {H H':Hp} {s:Shared} {b:Addr} (I:Inv X pins σ H s) (hb:s.heap.objs.size≤b) (hn:H' b = none):FpOk X pins H' b:=by
 refine ⟨hn,Nat.ne_of_gt (Nat.lt_of_lt_of_le I.lt hb),I.nofs hb,.inr (Nat.le_trans I.sz hb),fun x c e z=>?_,fun p hp z=>?_⟩
 ·obtain ⟨v,q⟩:=I.cell x c e
  exact absurd (Nat.lt_of_lt_of_le q.lt (by rw [z]; exact hb)) (Nat.lt_irrefl _)
 ·exact absurd (Nat.lt_of_lt_of_le (Heap.lt_size (I.pin p hp).1) (by rw [z]; exact hb)) (Nat.lt_irrefl _)
structure Turn (P:Program) (w:World) (K:PySem.W.Frag) (tg:Expr) (J:It) (fp:List Addr) (it:Addr) (tn:Nat→Heap→Prop):Prop where
 mem:it ∈ fp
 obj:∀ i h,tn i h→∀ b ∈ fp,∃ o,h.get? b = some o∧∀ v,o.data ≠ .cell v
 keep:∀ i h h',tn i h→(∀ b ∈ fp,∀ o,h.get? b = some o→h'.get? b = some o)→tn i h'
 item:∀ (X:Cx),X.prog = P→X.w = w→X.K = K→X.calm = true→∀ (i:Nat) (pins:List (Addr×Obj)) (s:Shared) (σ:St) (H:Hp) (E:Value→Shared→Prop),Inv X pins σ H s→(∀ b ∈ fp,FpOk X pins H b)→tn i s.heap→J.go i H →
  wpAny (model P w) X.A (pyNext (.ref it)) (fun r s1=>∃ u,r = some u ∧
   wpAny (model P w) X.A (letOwnedTupleGo tg (.ref it) u) (fun _ s2=>∃ x H',Inv X pins σ H' s2∧RelV x u∧J.yld i H x H'∧tn (i+1) s2.heap∧∀ b ∈ fp,H' b = none) E s1) E s
 done:∀ (X:Cx),X.prog = P→X.w = w→X.K = K→X.calm = true→∀ (i:Nat) (pins:List (Addr×Obj)) (s:Shared) (σ:St) (H:Hp) (E:Value→Shared→Prop),Inv X pins σ H s→(∀ b ∈ fp,FpOk X pins H b)→tn i s.heap→J.stop i H →
  wpAny (model P w) X.A (pyNext (.ref it)) (fun r s1=>r = none∧Inv X pins σ H s1) E s
 self:∀ (A:Around) (i:Nat) (s:Shared) (Q:Value→Shared→Prop) (E:Value→Shared→Prop),tn i s.heap→Q (.ref it) s→wpAny (model P w) A (pyIter (.ref it)) Q E s
abbrev TI:=St→Hp→(It→Hp→Prop)→Prop
def PIE (X:Cx) (pins:List (Addr×Obj)) (σ:St) (tg:Expr) (R:It→Hp→Prop) (itv:Value) (s2:Shared):Prop :=
 ∃ (it:Addr) (fp:List Addr) (tn:Nat→Heap→Prop) (J:It) (H':Hp),itv = .ref it∧Inv X pins σ H' s2∧Turn X.prog X.w X.K tg J fp it tn∧tn 0 s2.heap∧(∀ b ∈ fp,FpOk X pins H' b)∧R J H'
def PI (X:Cx) (tg iter:Expr) (wi:TI):Prop :=
 ∀ (pins:List (Addr×Obj)) (s:Shared) (σ:St) (H:Hp) (R:It→Hp→Prop),Inv X pins σ H s→wi σ H R →
  wpAny (model X.prog X.w) X.A (eval iter X.env) (fun v s1=>wpAny (model X.prog X.w) X.A (pyIter v) (PIE X pins σ tg R) X.xe s1) X.xe s
theorem go_of {M:Model} {A:Around} {E:Value→Shared→Prop} {s:Shared} {tg:Expr} {it:Addr} {u:Value} {o:Obj} {n:String} {vs:Array Value} {Q:Unit→Shared→Prop} (ho:s.heap.get? it = some o) (hc:o.cls = .type n) (hd:o.data = .fields vs)
    (hn:["enumerate","zip","dict_itemiterator","dict_reverseitemiterator","odict_iterator","itertools.zip_longest","itertools.pairwise"].contains n = false) (hQ:Q () s):wpAny M A (letOwnedTupleGo tg (.ref it) u) Q E s:=by
  unfold letOwnedTupleGo
  cases tg <;> first
    | exact wpAny_pure hQ
    | (cases u <;> first
        | exact wpAny_pure hQ
        | (refine wpAny_bind (wpAny_load ho ?_)
           rw [hc,hd]
           show wpAny M A (if (["enumerate","zip","dict_itemiterator","dict_reverseitemiterator","odict_iterator","itertools.zip_longest","itertools.pairwise"].contains n && vs[0]? == some (rawInt _)) = true then _ else _) Q E s
           rw [if_neg (by intro h; rw [hn,Bool.false_and] at h; cases h)]
           exact wpAny_pure hQ))
def Itl (K:PySem.W.Frag) (a:Addr):It :=
 ⟨fun i H=>∃ xs x,SqL K H a xs∧xs[i]? = some x,fun i H x H'=>H' = H∧∀ xs,SqL K H a xs→xs[i]? = some x,fun i H=>∃ xs,SqL K H a xs∧xs.length≤i⟩
def Itr (lo:Int) (n:Nat):It:=⟨fun i _=>i < n,fun i H x H'=>H' = H∧x = .int (lo+i),fun i _=>n≤i⟩
theorem turn_list {P:Program} {w:World} {K:PySem.W.Frag} {tg:Expr} (a it:Addr):Turn P w K tg (Itl K a) [it] it (fun i h=>h.IsListIter it a i) where
 mem:=by simp
 obj:=fun i h st b hb=>by
  have e:b = it:=by simpa using hb
  subst e
  obtain ⟨o,e,c,d⟩:=st
  exact ⟨o,e,fun v z=>by rw [d] at z; cases z⟩
 keep:=fun i h h' st k=>st.at fun o e=>k it (by simp) o e
 item:=by
  intro X hP hw hK hc i pins s σ H E I hf st hg
  subst hP hw hK
  obtain ⟨xs,x,hq,hx⟩:=hg
  obtain ⟨its,rv,p,hz⟩:=I.list hq
  obtain ⟨u,hu,ru⟩:=rv.get hx
  obtain ⟨f0,f1,f2,f3,f4,f5⟩:=hf it (by simp)
  refine wpAny_pyNext_list_item st p.isList (x:=u) (by simpa using hu) fun h' st' sb=>?_
  have I1:Inv X pins σ H { s with heap:=h' }:=I.turned (t':=s.toks) (fun b o hb e=>(sb.2 b hb).trans e) f0 f1 f3 f4 f5
  obtain ⟨o,e,c,d⟩:=id st'
  exact ⟨u,rfl,go_of (s:={ s with heap:=h' }) e c d (by decide) ⟨x,H,I1,ru,⟨rfl,fun ys hy=>by rw [I.list_inj hy hq]; exact hx⟩,st',fun b hb=>(hf b hb).1⟩⟩
 done:=by
  intro X hP hw hK hc i pins s σ H E I hf st hg
  subst hP hw hK
  obtain ⟨xs,hq,hx⟩:=hg
  obtain ⟨its,rv,p,hz⟩:=I.list hq
  obtain ⟨f0,f1,f2,f3,f4,f5⟩:=hf it (by simp)
  have hl:=rv.length
  exact wpAny_pyNext_list_end (I.ok.hd hc) st p.isList (by simp; omega) fun h' eb=>⟨rfl,I.turned (t':=s.toks) (fun b o hb e=>eb b o hb e) f0 f1 f3 f4 f5⟩
 self:=fun _ _ _ _ _ st h=>wpAny_pyIter_listiter st h
theorem turn_range {P:Program} {w:World} {K:PySem.W.Frag} {tg:Expr} (it:Addr) (lo:Int) (n:Nat):Turn P w K tg (Itr lo n) [it] it (fun i h=>IsRangeIter h it (lo+(i:Nat) * 1) ((n:Int) - (i:Nat)) 1) where
 mem:=by simp
 obj:=fun i h st b hb=>by
  have e:b = it:=by simpa using hb
  subst e
  exact ⟨_,st,fun v z=>by
   have z':Data.fields _ = Data.cell v:=z
   cases z'⟩
 keep:=fun i h h' st k=>k it (by simp) _ st
 item:=by
  intro X hP hw hK hc i pins s σ H E I hf st hg
  subst hP hw hK
  obtain ⟨f0,f1,f2,f3,f4,f5⟩:=hf it (by simp)
  have W:=Walks.range (prog:=X.prog) (w:=X.w) (I.ok.hd hc) it lo 1 n
  refine W.item i s _ _ hg st fun v h' tk hv st' kk=>?_
  obtain ⟨t,rfl⟩:=hv
  have I1:Inv X pins σ H { s with heap:=h',toks:=tk }:=I.turned (fun b o hb e=>kk b o (by simpa using hb) e) f0 f1 f3 f4 f5
  refine ⟨_,rfl,go_of (s:={ s with heap:=h',toks:=tk }) (n:="range_iterator") st' rfl rfl (by decide) ⟨.int (lo+i),H,I1,⟨t,?_⟩,⟨rfl,rfl⟩,st',fun b hb=>(hf b hb).1⟩⟩
  rw [Int.mul_one]
 done:=by
  intro X hP hw hK hc i pins s σ H E I hf st hg
  subst hP hw hK
  obtain ⟨f0,f1,f2,f3,f4,f5⟩:=hf it (by simp)
  exact wpAny_pyNext_range_end (I.ok.hd hc) st (by have:n≤i:=hg; omega) fun h' eb=>⟨rfl,I.turned (t':=s.toks) (fun b o hb e=>eb b o hb e) f0 f1 f3 f4 f5⟩
 self:=fun _ _ _ _ _ st h=>wpAny_pyIter_rangeiter st h
end L2
namespace L2
open PySem PySem.Spec PyProof.Rows
section
variable {X:Cx} {tg:Expr}
def iList (K:PySem.W.Frag) (tl:TE):TI:=fun σ H R=>tl σ H fun x H1=>∃ a,x = .ref a∧(∃ xs,SqL K H1 a xs)∧R (Itl K a) H1
theorem pi_list {l:Expr} {tl:TE} (hl:PE X l tl):PI X tg l (iList X.K tl):=by
 intro pins s σ H R I h
 refine thn (hl pins s σ H _ I h) fun v s1 ⟨x,H1,I1,r1,q1⟩=>?_
 obtain ⟨a,e,⟨xs,hq⟩,q⟩:=q1
 subst e
 cases r1
 obtain ⟨its,rv,p,hz⟩:=I1.list hq
 refine wpAny_pyIter_list p.isList ?_
 refine ⟨s1.heap.objs.size,[s1.heap.objs.size],_,_,H1,rfl,I1.kept (t':=s1.toks) fun b o e=>Heap.get?_push_of_some _ e,turn_list a _,⟨_,Heap.get?_push_size _ rfl,rfl,rfl⟩,fun b hb=>?_,q⟩
 have e:b = s1.heap.objs.size:=by simpa using hb
 subst e
 exact I1.fpOk (Nat.le_refl _) (I1.hok.fresh (Nat.le_refl _))
theorem range_it {pins:List (Addr×Obj)} {σ:St} {H:Hp} {s:Shared} {R:It→Hp→Prop} {E:Value→Shared→Prop} {lo hi:Int} {t u v:Tok} {tk:Nat} (I:Inv X pins σ H s) (h1:-(2 ^ 62)≤lo) (h2:lo < 2 ^ 62) (h3:-(2 ^ 62)≤hi) (h4:hi < 2 ^ 62)
  (q:R (Itr lo (hi - lo).toNat) H):wpAny (model X.prog X.w) X.A (pyIter (.ref s.heap.objs.size)) (PIE X pins σ tg R) E { s with heap:=s.heap.push { cls:=.type "range",data:=.fields #[.int lo t,.int hi u,.int 1 v] },toks:=tk }:=by
 refine wpAny_pyIter_range (IsRange.new ..) (small_one h1 h2 h3 h4) ?_
 have I1:Inv X pins σ H { s with heap:=s.heap.push { cls:=.type "range",data:=.fields #[.int lo t,.int hi u,.int 1 v] },toks:=tk }:=I.kept fun b o e=>Heap.get?_push_of_some _ e
 refine ⟨(s.heap.push { cls:=.type "range",data:=.fields #[.int lo t,.int hi u,.int 1 v] }).objs.size,[(s.heap.push { cls:=.type "range",data:=.fields #[.int lo t,.int hi u,.int 1 v] }).objs.size],_,_,H,rfl,
  I1.kept (t':=tk) fun b o e=>Heap.get?_push_of_some _ e,turn_range _ lo (hi - lo).toNat,?_,fun b hb=>?_,q⟩
 ·have e1:lo+((0:Nat):Int) * 1 = lo:=by simp
  have e2:(((hi - lo).toNat:Nat):Int) - ((0:Nat):Int) = Builtin.Range.rangeSize lo hi 1:=by rw [rangeSize_one]; split <;> omega
  show IsRangeIter _ _ (lo+((0:Nat):Int) * 1) ((((hi - lo).toNat:Nat):Int) - ((0:Nat):Int)) 1
  rw [e1,e2]
  exact Heap.get?_push_size _ rfl
 ·have e:b = (s.heap.push { cls:=.type "range",data:=.fields #[.int lo t,.int hi u,.int 1 v] }).objs.size:=by simpa using hb
  subst e
  exact I1.fpOk (Nat.le_refl _) (I1.hok.fresh (Nat.le_refl _))
def iRng1 (ta:TA):TI:=fun σ H R=>ta σ H fun vs H1=>∃ j:Int,vs = [.int j]∧-(2 ^ 62)≤j∧j < 2 ^ 62∧R (Itr 0 j.toNat) H1
theorem pi_range1 {a:Expr} {ta:TA} {p pos:Pos} (hg:Gl X "range") (hm:X.mg "range" = none) (ha:PA X [a] ta) (hs:starEach [a] X.env = [(false,eval a X.env)]:=by rfl):PI X tg (.Call (.Name "range" p) [a] [] pos) (iRng1 ta):=by
 intro pins s σ H R I h
 refine Call_ (ld_blt I hg hm boot_range (PyProof.Rows.callWith_type1 (thn (ha pos pins s σ H _ I h) fun us s1 ⟨vs,H1,I1,r1,q1⟩=>?_) hs rfl))
 obtain ⟨j,e,q1,q2,q⟩:=q1
 subst e
 cases r1 with
 | cons r rr =>
  cases rr
  obtain ⟨t,rfl⟩:=r
  exact call_range_1 (range_it I1 (by omega) (by omega) q1 q2 (by simpa using q))
def tFor (wi:TI) (g:TG) (tb:TS):TS:=fun D σ H=>wi σ H fun J H1=>∃ W:Nat→Nat→St→Hp→Prop,(∃ m,W 0 m σ H1)∧∀ i m σ H,W i m σ H →
 (J.stop i H∧D.nx σ H)∨(J.go i H∧∃ N:St→Hp→Prop,(∀ σ' H',N σ' H'→∃ m',m' < m∧W (i+1) m' σ' H')∧∀ x H',J.yld i H x H'→g x σ H' fun σ2 H2=>tb { D with nx:=N,ct:=N,bk:=D.nx } σ2 H2)
def pinsAt (fp:List Addr) (h:Heap):List (Addr×Obj):=fp.filterMap fun b=>(h.get? b).map fun o=>(b,o)
theorem mem_pinsAt {fp:List Addr} {h:Heap} {b:Addr} {o:Obj} (hb:b ∈ fp) (e:h.get? b = some o):(b,o) ∈ pinsAt fp h:=List.mem_filterMap.mpr ⟨b,hb,by rw [e]; rfl⟩
theorem of_pinsAt {fp:List Addr} {h:Heap} {p:Addr×Obj} (hp:p ∈ pinsAt fp h):p.1 ∈ fp∧h.get? p.1 = some p.2:=by
 obtain ⟨b,hb,e⟩:=List.mem_filterMap.mp hp
 cases q:h.get? b with
 | none=>rw [q] at e; cases e
 | some o =>
  rw [q] at e
  have e':(b,o) = p:=Option.some.inj e
  subst e'
  exact ⟨hb,q⟩
theorem Inv.pinned {pins:List (Addr×Obj)} {σ:St} {H:Hp} {s:Shared} {fp:List Addr} (I:Inv X pins σ H s) (hf:∀ b ∈ fp,FpOk X pins H b) (ho:∀ b ∈ fp,∃ o,s.heap.get? b = some o∧∀ v,o.data ≠ .cell v):Inv X (pins++pinsAt fp s.heap) σ H s :=
 I.pins_of fun p hp=>(List.mem_append.mp hp).elim (fun z=>I.pin p (List.mem_append_right _ z)) fun z=>by
  obtain ⟨hb,e⟩:=of_pinsAt z
  obtain ⟨f0,f1,f2,_⟩:=hf p.1 hb
  obtain ⟨o,e',d⟩:=ho p.1 hb
  rw [e] at e'; cases e'
  exact ⟨e,f0,f1,f2,d⟩
theorem Inv.unpinned {pins pl:List (Addr×Obj)} {σ:St} {H:Hp} {s:Shared} (I:Inv X (pins++pl) σ H s):Inv X pins σ H s:=I.pins_of fun p hp=>I.pin p (List.mem_append_right _ (List.mem_append_left _ hp))
theorem ps_for {iter:Expr} {body:List Stmt} {wi:TI} {g:TG} {tb:TS} {pos:Pos} (hp:PassesOwn (model X.prog X.w) X.A X.env X.xe) (hc:X.calm = true) (hi:PI X tg iter wi) (hg:PG X tg g) (hb:PSs X body tb)
  (hs:∀ x,foldedSetIterable iter X.env x = pure x:=by intro _; rfl):PS X (.For tg iter body [] pos) (tFor wi g tb):=by
 intro pins s σ H D I h
 refine wpAny_For (thn (hi pins s σ H _ I h) fun v s1 h1=>thn h1 fun itv s2 h2=>?_) hs
 obtain ⟨it,fp,tn,J,H2,e,I2,T,st2,f2,W,⟨m0,w0⟩,turn⟩:=h2
 subst e
 have stat:∀ {H':Hp},(∀ b ∈ fp,H' b = none)→∀ b ∈ fp,FpOk X pins H' b:=fun hn b hb=>⟨hn b hb,(f2 b hb).2⟩
 refine codeAny_forLoop_any (fun n s'=>∃ i σ' H',Inv X pins σ' H' s'∧tn i s'.heap∧(∀ b ∈ fp,H' b = none)∧W i n σ' H') ?_ m0 ⟨0,σ,H2,I2,st2,fun b hb=>(f2 b hb).1,w0⟩
 rintro n s3 ⟨i,σ3,H3,I3,st3,fr3,w3⟩
 rcases turn i n σ3 H3 w3 with ⟨stop,qn⟩ | ⟨go,N,hN,step⟩
 ·refine wpAny_passesOwn hp (thn (T.done X rfl rfl rfl hc i pins s3 σ3 H3 X.xe I3 (stat fr3) st3 stop) fun r s4 ⟨hr,I4⟩=>?_)
  subst hr
  exact wpAny_execs_nil ⟨σ3,H3,I4,qn⟩
 ·refine wpAny_passesOwn hp (thn (T.item X rfl rfl rfl hc i pins s3 σ3 H3 X.xe I3 (stat fr3) st3 go) fun r s4 ⟨u,hr,h4⟩=>?_)
  subst hr
  refine wpAny_passesOwn hp (thn h4 fun _ s5 ⟨x,H5,I5,r5,y5,st5,fr5⟩=>?_)
  have I5':=I5.pinned (stat fr5) (T.obj _ _ st5)
  refine wpAny_passesOwn hp (thn (hg _ s5 σ3 H5 x u _ I5' r5 (step x H5 y5)) fun _ s6 ⟨σ6,H6,I6,q6⟩=>?_)
  refine wpAny_passesOwn hp (thn (hb _ s6 σ6 H6 _ I6 q6) fun f s7 q7=>?_)
  have again:∀ {σ7:St} {H7:Hp},Inv X (pins++pinsAt fp s5.heap) σ7 H7 s7→N σ7 H7→∃ m,m < n∧∃ i σ' H',Inv X pins σ' H' s7∧tn i s7.heap∧(∀ b ∈ fp,H' b = none)∧W i m σ' H':=fun {σ7 H7} I7 n7=>by
   obtain ⟨m',hm,w7⟩:=hN σ7 H7 n7
   refine ⟨m',hm,i+1,σ7,H7,I7.unpinned,T.keep _ _ _ st5 fun b hb o e=>(I7.pin (b,o) (List.mem_append_right _ (List.mem_append_right _ (mem_pinsAt hb e)))).1,fun b hb=>?_,w7⟩
   obtain ⟨o,e,d⟩:=T.obj _ _ st5 b hb
   exact (I7.pin (b,o) (List.mem_append_right _ (List.mem_append_right _ (mem_pinsAt hb e)))).2.1
  cases f with
  | next=>obtain ⟨σ7,H7,I7,n7⟩:=q7; exact again I7 n7
  | cont=>obtain ⟨σ7,H7,I7,n7⟩:=q7; exact again I7 n7
  | brk=>obtain ⟨σ7,H7,I7,q7⟩:=q7; exact ⟨σ7,H7,I7.unpinned,q7⟩
  | ret v=>obtain ⟨x7,σ7,H7,I7,r7,q7⟩:=q7; exact ⟨x7,σ7,H7,I7.unpinned,r7,q7⟩
end
theorem for_list {K:PySem.W.Frag} {a:Addr} {xs:List V} {g:TG} {tb:TS} {D:Ends} {σ:St} {H:Hp} (Pv:Nat→St→Hp→Prop) (h0:Pv 0 σ H) (hl:∀ i σ H,i≤xs.length→Pv i σ H→SqL K H a xs)
  (hs:∀ i x σ H,xs[i]? = some x→Pv i σ H→g x σ H fun σ2 H2=>tb { D with nx:=Pv (i+1),ct:=Pv (i+1),bk:=D.nx } σ2 H2) (hd:∀ σ H,Pv xs.length σ H→D.nx σ H) :
  ∃ W:Nat→Nat→St→Hp→Prop,(∃ m,W 0 m σ H)∧∀ i m σ H,W i m σ H →
   ((Itl K a).stop i H∧D.nx σ H)∨((Itl K a).go i H∧∃ N:St→Hp→Prop,(∀ σ' H',N σ' H'→∃ m',m' < m∧W (i+1) m' σ' H')∧∀ x H',(Itl K a).yld i H x H'→g x σ H' fun σ2 H2=>tb { D with nx:=N,ct:=N,bk:=D.nx } σ2 H2):=by
 refine ⟨fun i m σ H=>m = xs.length - i∧i≤xs.length∧Pv i σ H,⟨xs.length,by simp,Nat.zero_le _,h0⟩,?_⟩
 rintro i m σ H ⟨rfl,hi,p⟩
 have q:=hl i σ H hi p
 by_cases hlt:i < xs.length
 ·refine .inr ⟨⟨xs,xs[i],q,by simp [hlt]⟩,Pv (i+1),fun σ' H' p'=>⟨xs.length - (i+1),by omega,rfl,hlt,p'⟩,fun x H' y=>?_⟩
  obtain ⟨e,y⟩:=y
  subst e
  exact hs i x σ _ (y xs q) p
 ·have e:i = xs.length:=by omega
  subst e
  exact .inl ⟨⟨xs,q,Nat.le_refl _⟩,hd σ H p⟩
theorem for_range {lo:Int} {n:Nat} {g:TG} {tb:TS} {D:Ends} {σ:St} {H:Hp} (Pv:Nat→St→Hp→Prop) (h0:Pv 0 σ H)
  (hs:∀ i σ H,i < n→Pv i σ H→g (.int (lo+i)) σ H fun σ2 H2=>tb { D with nx:=Pv (i+1),ct:=Pv (i+1),bk:=D.nx } σ2 H2) (hd:∀ σ H,Pv n σ H→D.nx σ H) :
  ∃ W:Nat→Nat→St→Hp→Prop,(∃ m,W 0 m σ H)∧∀ i m σ H,W i m σ H →
   ((Itr lo n).stop i H∧D.nx σ H)∨((Itr lo n).go i H∧∃ N:St→Hp→Prop,(∀ σ' H',N σ' H'→∃ m',m' < m∧W (i+1) m' σ' H')∧∀ x H',(Itr lo n).yld i H x H'→g x σ H' fun σ2 H2=>tb { D with nx:=N,ct:=N,bk:=D.nx } σ2 H2):=by
 refine ⟨fun i m σ H=>m = n - i∧i≤n∧Pv i σ H,⟨n,by simp,Nat.zero_le _,h0⟩,?_⟩
 rintro i m σ H ⟨rfl,hi,p⟩
 by_cases hlt:i < n
 ·refine .inr ⟨hlt,Pv (i+1),fun σ' H' p'=>⟨n - (i+1),by omega,rfl,hlt,p'⟩,fun x H' y=>?_⟩
  obtain ⟨e,y⟩:=y
  subst e y
  exact hs i σ _ hlt p
 ·have e:i = n:=by omega
  subst e
  exact .inl ⟨Nat.le_refl _,hd σ H p⟩
end L2
namespace L2
open PySem PySem.Spec PyProof.Rows
abbrev R2:=V→V→Hp→VK→Prop
def OpR (X:Cx) (f:Value→Value→Sem Value) (r:R2):Prop :=
 ∀ (pins:List (Addr×Obj)) (s:Shared) (σ:St) (H:Hp) (x y:V) (v u:Value) (Q:VK),Inv X pins σ H s→RelV x v→RelV y u→r x y H Q →
  wpAny (model X.prog X.w) X.A (f v u) (EP X pins σ Q) X.xe s
def UnR (X:Cx) (f:Value→Sem Value) (r:V→Hp→VK→Prop):Prop :=
 ∀ (pins:List (Addr×Obj)) (s:Shared) (σ:St) (H:Hp) (x:V) (v:Value) (Q:VK),Inv X pins σ H s→RelV x v→r x H Q →
  wpAny (model X.prog X.w) X.A (f v) (EP X pins σ Q) X.xe s
def CallR (X:Cx) (f:Value) (r:List V→Hp→VK→Prop):Prop :=
 ∀ (pins:List (Addr×Obj)) (s:Shared) (σ:St) (H:Hp) (xs:List V) (us:List Value) (Q:VK),Inv X pins σ H s→Vals xs us→r xs H Q →
  wpAny (model X.prog X.w) X.A (call f us) (EP X pins σ Q) X.xe s
def tOp (r:R2) (ta tb:TE):TE:=fun σ H Q=>ta σ H fun x H1=>tb σ H1 fun y H2=>r x y H2 Q
def tUn (r:V→Hp→VK→Prop) (ta:TE):TE:=fun σ H Q=>ta σ H fun x H1=>r x H1 Q
def rI (C:Int→Int→Prop) (g:Int→Int→V):R2:=fun x y H Q=>∃ i j,x = .int i∧y = .int j∧C i j∧Q (g i j) H
def rI0 (g:Int→Int→V):R2:=fun x y H Q=>∃ i j,x = .int i∧y = .int j∧Q (g i j) H
def rU (g:Int→V):V→Hp→VK→Prop:=fun x H Q=>∃ i,x = .int i∧Q (g i) H
section
variable {X:Cx} {a b c:Expr} {ta tb tc:TE} {pos:Pos}
theorem binT (ha:PE X a ta) (hb:PE X b tb) {pins:List (Addr×Obj)} {s:Shared} {σ:St} {H:Hp} {R:V→V→Hp→Prop} (I:Inv X pins σ H s)
  (h:ta σ H fun x H1=>tb σ H1 fun y H2=>R x y H2) {Q:Value→Shared→Prop} {f:Value→Value→Sem Value}
  (hf:∀ v u s2 x y H2,Inv X pins σ H2 s2→RelV x v→RelV y u→R x y H2→wpAny (model X.prog X.w) X.A (f v u) Q X.xe s2) :
  wpAny (model X.prog X.w) X.A (eval a X.env) (fun v s₁=>wpAny (model X.prog X.w) X.A (eval b X.env) (fun u s₂=>wpAny (model X.prog X.w) X.A (f v u) Q X.xe s₂) X.xe s₁) X.xe s:=by
 refine thn (ha pins s σ H _ I h) fun v s1 ⟨x,H1,I1,r1,q1⟩=>?_
 refine thn (hb pins s1 σ H1 _ I1 q1) fun u s2 ⟨y,H2,I2,r2,q2⟩=>?_
 exact hf v u s2 x y H2 I2 r1 r2 q2
theorem pe_op {op:Operator} {r:R2} (ho:OpR X (binaryOp op) r) (ha:PE X a ta) (hb:PE X b tb):PE X (.BinOp a op b pos) (tOp r ta tb):=by
 intro pins s σ H Q I h
 exact wpAny_BinOp (binT ha hb I h fun v u s2 x y H2 I2 rx ry q=>ho pins s2 σ H2 x y v u Q I2 rx ry q)
theorem pe_un {op:UnaryOp} {r:V→Hp→VK→Prop} (ho:UnR X (unaryOp op) r) (ha:PE X a ta):PE X (.UnaryOp op a pos) (tUn r ta):=by
 intro pins s σ H Q I h
 exact UnaryOp_ (thn (ha pins s σ H _ I h) fun v s1 ⟨x,H1,I1,r1,q1⟩=>ho pins s1 σ H1 x v Q I1 r1 q1)
theorem opI {f:Value→Value→Sem Value} {C:Int→Int→Prop} {g:Int→Int→Int}
  (rule:∀ (i j:Int) (t u:Tok) (s:Shared) (Q:Value→Shared→Prop) (E:Value→Shared→Prop),C i j→Q (.int (g i j) s.toks) { s with toks:=s.toks+1 }→wpAny (model X.prog X.w) X.A (f (.int i t) (.int j u)) Q E s) :
  OpR X f (rI C fun i j=>.int (g i j)):=by
 intro pins s σ H x y v u Q I rx ry h
 obtain ⟨i,j,rfl,rfl,hc,q⟩:=h
 obtain ⟨t,rfl⟩:=rx
 obtain ⟨t',rfl⟩:=ry
 exact rule i j t t' s _ _ hc ⟨.int (g i j),H,I.tok _,⟨_,rfl⟩,q⟩
theorem opI0 {f:Value→Value→Sem Value} {g:Int→Int→Int}
  (rule:∀ (i j:Int) (t u:Tok) (s:Shared) (Q:Value→Shared→Prop) (E:Value→Shared→Prop),Q (.int (g i j) s.toks) { s with toks:=s.toks+1 }→wpAny (model X.prog X.w) X.A (f (.int i t) (.int j u)) Q E s) :
  OpR X f (rI0 fun i j=>.int (g i j)):=by
 intro pins s σ H x y v u Q I rx ry h
 obtain ⟨i,j,rfl,rfl,q⟩:=h
 obtain ⟨t,rfl⟩:=rx
 obtain ⟨t',rfl⟩:=ry
 exact rule i j t t' s _ _ ⟨.int (g i j),H,I.tok _,⟨_,rfl⟩,q⟩
theorem opB0 {f:Value→Value→Sem Value} {g:Int→Int→Bool}
  (rule:∀ (i j:Int) (t u:Tok) (s:Shared) (Q:Value→Shared→Prop) (E:Value→Shared→Prop),Q (.bool (g i j)) s→wpAny (model X.prog X.w) X.A (f (.int i t) (.int j u)) Q E s) :
  OpR X f (rI0 fun i j=>.bl (g i j)):=by
 intro pins s σ H x y v u Q I rx ry h
 obtain ⟨i,j,rfl,rfl,q⟩:=h
 obtain ⟨t,rfl⟩:=rx
 obtain ⟨t',rfl⟩:=ry
 exact rule i j t t' s _ _ ⟨.bl (g i j),H,I,rfl,q⟩
def CDiv (i j:Int):Prop:=0 < j∧j < 1073741824
def CPow (i j:Int):Prop:=0≤j∧j≤1000000∧i.natAbs < 2 ^ 64
def CMul (i j:Int):Prop:=(-(2 ^ 64) < i∧i < 2 ^ 64)∨(-(2 ^ 64) < j∧j < 2 ^ 64)
theorem CMul.ok {i j:Int} (h:CMul i j):IntMulOk i j:=by
 rcases h with ⟨h1,h2⟩ | ⟨h1,h2⟩
 ·exact .of_left (intBits_le_64 h1 h2)
 ·exact .of_right (intBits_le_64 h1 h2)
theorem op_add:OpR X (binaryOp .Add) (rI0 fun i j=>.int (i+j)):=opI0 fun _ _ _ _ _ _ _ q=>add_int q
theorem op_sub:OpR X (binaryOp .Sub) (rI0 fun i j=>.int (i - j)):=opI0 fun _ _ _ _ _ _ _ q=>sub_int q
theorem op_mul:OpR X (binaryOp .Mult) (rI CMul fun i j=>.int (i * j)):=opI fun _ _ _ _ _ _ _ hc q=>mul_int q hc.ok
theorem op_fdiv:OpR X (binaryOp .FloorDiv) (rI CDiv fun i j=>.int (i / j)):=opI fun i j _ _ _ _ _ hc q=>by
 have h1:(0:Int) < j:=hc.1
 have h2:j < 1073741824:=hc.2
 exact floordiv_int (by omega) (by rw [Int.fdiv_eq_ediv_of_nonneg i (by omega)]; exact q) (.inl (PyProof.noPylong_small (by omega)))
theorem op_mod:OpR X (binaryOp .Mod) (rI (fun _ j=>0 < j) fun i j=>.int (i % j)):=opI fun i j _ _ _ _ _ hc q=>by
 have h1:(0:Int) < j:=hc
 exact mod_int' (by omega) (by rw [Int.fmod_eq_emod_of_nonneg i (by omega)]; exact q)
theorem op_pow:OpR X (binaryOp .Pow) (rI CPow fun i j=>.int (i ^ j.toNat)):=opI fun _ _ _ _ _ _ _ hc q=>pow_int_small hc.1 hc.2.1 hc.2.2 q
theorem unI {f:Value→Sem Value} {g:Int→Int}
  (rule:∀ (i:Int) (t:Tok) (s:Shared) (Q:Value→Shared→Prop) (E:Value→Shared→Prop),Q (.int (g i) s.toks) { s with toks:=s.toks+1 }→wpAny (model X.prog X.w) X.A (f (.int i t)) Q E s) :
  UnR X f (rU fun i=>.int (g i)):=by
 intro pins s σ H x v Q I rx h
 obtain ⟨i,rfl,q⟩:=h
 obtain ⟨t,rfl⟩:=rx
 exact rule i t s _ _ ⟨.int (g i),H,I.tok _,⟨_,rfl⟩,q⟩
theorem un_neg:UnR X (unaryOp .USub) (rU fun i=>.int (-i)):=unI fun _ _ _ _ _ q=>neg_int q
end
def scal:V→V→Bool
 | .non,.non=>true | .non,.int _=>true | .int _,.non=>true | .non,.bl _=>true | .bl _,.non=>true | .non,.str _=>true | .str _,.non=>true
 | .int _,.int _=>true | .bl _,.bl _=>true | .str _,.str _=>true | .byt _,.byt _=>true
 | .int _,.str _=>true | .str _,.int _=>true | .bl _,.str _=>true | .str _,.bl _=>true
 | _,_=>false
def rEq:R2:=fun x y H Q=>scal x y = true∧Q (.bl (decide (x = y))) H
def rNe:R2:=fun x y H Q=>scal x y = true∧Q (.bl (!decide (x = y))) H
theorem dec_int {i j:Int}:decide (V.int i = V.int j) = (i == j):=by
 rw [Bool.eq_iff_iff]
 simp
theorem dec_bl {i j:Bool}:decide (V.bl i = V.bl j) = (i == j):=by
 rw [Bool.eq_iff_iff]
 simp
theorem dec_str {i j:Str}:decide (V.str i = V.str j) = (i == j):=by
 rw [Bool.eq_iff_iff]
 simp
theorem dec_byt {i j:Array UInt8}:decide (V.byt i = V.byt j) = (i.toList == j.toList):=by
 rw [Bool.eq_iff_iff]
 cases i
 cases j
 simp
section
variable {X:Cx} {a b c:Expr} {ta tb tc:TE} {pos:Pos}
theorem fin_bl {pins:List (Addr×Obj)} {σ:St} {H:Hp} {s:Shared} {Q:VK} {k k':Bool} (I:Inv X pins σ H s) (q:Q (.bl k) H) (e:k = k'):EP X pins σ Q (.bool k') s:=by
 subst e
 exact ⟨.bl k,H,I,rfl,q⟩
theorem op_eq:OpR X (compareOp .Eq) rEq:=by
 intro pins s σ H x y v u Q I rx ry h
 obtain ⟨hs,q⟩:=h
 cases x with
 | non =>
  cases rx
  cases y with
  | non=>cases ry; exact PySem.EqNone.eq_none_none (fin_bl I q (by simp))
  | bl j=>cases ry; exact PySem.EqNone.eq_none_bool (fin_bl I q (by simp))
  | int j=>obtain ⟨t',rfl⟩:=ry; exact PySem.EqNone.eq_none_int (fin_bl I q (by simp))
  | str j=>obtain ⟨t',rfl⟩:=ry; exact PySem.EqNone.eq_none_str (fin_bl I q (by simp))
  | _=>exact absurd (show false = true from hs) Bool.false_ne_true
 | bl i =>
  cases rx
  cases y with
  | non=>cases ry; exact PySem.EqNone.eq_bool_none (fin_bl I q (by simp))
  | bl j=>cases ry; exact eq_bool (fin_bl I q dec_bl)
  | str j=>obtain ⟨t',rfl⟩:=ry; exact PySem.EqMixed.eq_bool_str (fin_bl I q (by simp))
  | _=>exact absurd (show false = true from hs) Bool.false_ne_true
 | int i =>
  obtain ⟨t,rfl⟩:=rx
  cases y with
  | non=>cases ry; exact PySem.EqNone.eq_int_none (fin_bl I q (by simp))
  | int j=>obtain ⟨t',rfl⟩:=ry; exact eq_int (fin_bl I q dec_int)
  | str j=>obtain ⟨t',rfl⟩:=ry; exact PySem.EqMixed.eq_int_str (fin_bl I q (by simp))
  | _=>exact absurd (show false = true from hs) Bool.false_ne_true
 | str i =>
  obtain ⟨t,rfl⟩:=rx
  cases y with
  | non=>cases ry; exact PySem.EqNone.eq_str_none (fin_bl I q (by simp))
  | bl j=>cases ry; exact PySem.EqMixed.eq_str_bool (fin_bl I q (by simp))
  | int j=>obtain ⟨t',rfl⟩:=ry; exact PySem.EqMixed.eq_str_int (fin_bl I q (by simp))
  | str j=>obtain ⟨t',rfl⟩:=ry; exact eq_str (fin_bl I q dec_str)
  | _=>exact absurd (show false = true from hs) Bool.false_ne_true
 | byt i =>
  obtain ⟨t,rfl⟩:=rx
  cases y with
  | byt j=>obtain ⟨t',rfl⟩:=ry; exact PySem.W.eq_bytes (fin_bl I q dec_byt)
  | _=>exact absurd (show false = true from hs) Bool.false_ne_true
 | _=>cases y <;> exact absurd (show false = true from hs) Bool.false_ne_true
theorem op_ne:OpR X (compareOp .NotEq) rNe:=by
 intro pins s σ H x y v u Q I rx ry h
 obtain ⟨hs,q⟩:=h
 cases x with
 | non =>
  cases rx
  cases y with
  | non=>cases ry; exact PySem.EqNone.ne_none_none (fin_bl I q (by simp))
  | bl j=>cases ry; exact PySem.EqNone.ne_none_bool (fin_bl I q (by simp))
  | int j=>obtain ⟨t',rfl⟩:=ry; exact PySem.EqNone.ne_none_int (fin_bl I q (by simp))
  | str j=>obtain ⟨t',rfl⟩:=ry; exact PySem.EqNone.ne_none_str (fin_bl I q (by simp))
  | _=>exact absurd (show false = true from hs) Bool.false_ne_true
 | bl i =>
  cases rx
  cases y with
  | non=>cases ry; exact PySem.EqNone.ne_bool_none (fin_bl I q (by simp))
  | bl j=>cases ry; exact ne_bool (fin_bl I q (congrArg not dec_bl))
  | str j=>obtain ⟨t',rfl⟩:=ry; exact PySem.EqMixed.ne_bool_str (fin_bl I q (by simp))
  | _=>exact absurd (show false = true from hs) Bool.false_ne_true
 | int i =>
  obtain ⟨t,rfl⟩:=rx
  cases y with
  | non=>cases ry; exact PySem.EqNone.ne_int_none (fin_bl I q (by simp))
  | int j=>obtain ⟨t',rfl⟩:=ry; exact ne_int (fin_bl I q (congrArg not dec_int))
  | str j=>obtain ⟨t',rfl⟩:=ry; exact PySem.EqMixed.ne_int_str (fin_bl I q (by simp))
  | _=>exact absurd (show false = true from hs) Bool.false_ne_true
 | str i =>
  obtain ⟨t,rfl⟩:=rx
  cases y with
  | non=>cases ry; exact PySem.EqNone.ne_str_none (fin_bl I q (by simp))
  | bl j=>cases ry; exact PySem.EqMixed.ne_str_bool (fin_bl I q (by simp))
  | int j=>obtain ⟨t',rfl⟩:=ry; exact PySem.EqMixed.ne_str_int (fin_bl I q (by simp))
  | str j=>obtain ⟨t',rfl⟩:=ry; exact ne_str (fin_bl I q (congrArg not dec_str))
  | _=>exact absurd (show false = true from hs) Bool.false_ne_true
 | byt i =>
  obtain ⟨t,rfl⟩:=rx
  cases y with
  | byt j=>obtain ⟨t',rfl⟩:=ry; exact PySem.W.ne_bytes (fin_bl I q (congrArg not dec_byt))
  | _=>exact absurd (show false = true from hs) Bool.false_ne_true
 | _=>cases y <;> exact absurd (show false = true from hs) Bool.false_ne_true
theorem op_lt:OpR X (compareOp .Lt) (rI0 fun i j=>.bl (decide (i < j))):=opB0 fun _ _ _ _ _ _ _ q=>lt_int q
theorem op_le:OpR X (compareOp .LtE) (rI0 fun i j=>.bl (decide (i≤j))):=opB0 fun _ _ _ _ _ _ _ q=>le_int q
theorem op_gt:OpR X (compareOp .Gt) (rI0 fun i j=>.bl (decide (j < i))):=opB0 fun _ _ _ _ _ _ _ q=>gt_int q
theorem op_ge:OpR X (compareOp .GtE) (rI0 fun i j=>.bl (decide (j≤i))):=opB0 fun _ _ _ _ _ _ _ q=>ge_int q
theorem OpR.or {f:Value→Value→Sem Value} {r r':R2} (h:OpR X f r) (h':OpR X f r'):OpR X f (fun x y H Q=>r x y H Q∨r' x y H Q):=by
 intro pins s σ H x y v u Q I rx ry q
 rcases q with q | q
 ·exact h pins s σ H x y v u Q I rx ry q
 ·exact h' pins s σ H x y v u Q I rx ry q
theorem nomark (b:Expr) {op:CmpOp} (h:op ≠ .In:=by decide) (h2:op ≠ .NotIn:=by decide):behindInMarks op b = false:=by
 have e1:(op == CmpOp.In) = false:=by cases op <;> first | rfl | exact absurd rfl h
 have e2:(op == CmpOp.NotIn) = false:=by cases op <;> first | rfl | exact absurd rfl h2
 cases b <;> simp [behindInMarks,e1,e2]
theorem pe_cmpR {op:CmpOp} {r:R2} (ho:OpR X (compareOp op) r) (ha:PE X a ta) (hb:PE X b tb) (hm:behindInMarks op b = false):PE X (.Compare a [op] [b] pos) (tOp r ta tb):=by
 intro pins s σ H Q I h
 exact wpAny_Compare1 (binT ha hb I h fun v u s2 x y H2 I2 rx ry q=>ho pins s2 σ H2 x y v u Q I2 rx ry q) hm
def tTest (t:TE):TT:=fun σ H Q=>t σ H fun x H'=>∃ k,x = .bl k∧Q k H'
theorem pt_cmpR {op:CmpOp} {r:R2} (ho:OpR X (compareOp op) r) (ha:PE X a ta) (hb:PE X b tb) (hm:behindInMarks op b = false):PT X (.Compare a [op] [b] pos) (tTest (tOp r ta tb)):=by
 intro pins s σ H Q I h
 refine wpAny_isTrue_Compare1 (thn (ha pins s σ H _ I h) fun v s1 ⟨x,H1,I1,r1,q1⟩=>thn (hb pins s1 σ H1 _ I1 q1) fun u s2 ⟨y,H2,I2,r2,q2⟩ =>
  thn (ho pins s2 σ H2 x y v u _ I2 r1 r2 q2) fun c s3 ⟨z,H3,I3,r3,k,e,q3⟩=>?_) hm
 subst e
 cases r3
 exact wpAny_truthy_bool ⟨H3,I3,q3⟩
theorem line63:(sizeLine:Nat) < 2 ^ 63:=by rw [sizeLine_eq]; decide
theorem vals1 {x:V} {us:List Value} (r:Vals [x] us):∃ u,us = [u]∧RelV x u:=by
 cases r with
 | cons r1 r2=>cases r2; exact ⟨_,rfl,r1⟩
theorem call_abs:CallR X (.builtin "abs") (fun xs H Q=>∃ i,xs = [.int i]∧Q (.int (if i < 0 then -i else i)) H):=by
 intro pins s σ H xs us Q I r h
 obtain ⟨i,rfl,q⟩:=h
 obtain ⟨u,rfl,t,rfl⟩:=vals1 r
 exact call_abs_int fun u tk=>⟨.int (if i < 0 then -i else i),H,I.tok _,⟨_,rfl⟩,q⟩
end
end L2
namespace L2
open PySem PySem.Spec PyProof.Rows
structure ObjM (h:Heap) (x dx C:Addr) (mA:Str→Option Value):Prop where
 obj:h.get? x = some (PySem.W.instObj C dx)
 ns:h.Ns1 dx mA
 ne:dx ≠ x
section
variable {prog:Program} {w:World} {A:Around} {E:Value→Shared→Prop} {s:Shared} {K:PySem.W.Frag} {x dx C f:Addr} {mA:Str→Option Value} {name:Str} {v:Value}
end
def putF (f:Str) (v:V):List (Str×V)→List (Str×V)
 | []=>[(f,v)]
 | (g,x) :: r=>if g = f then (g,v) :: r else (g,x) :: putF f v r
theorem RelO.some_of {v:V} {o:Option Value} (r:RelO (some v) o):∃ u,o = some u∧RelV v u:=by
 cases o with
 | none=>exact (show False from r).elim
 | some u=>exact ⟨u,rfl,r⟩
section
variable {P:Program} {w:World} {H H':Hp} {h h':Heap} {a C dx:Addr} {fs fs':List (Str×V)}
end
structure Cls (K:PySem.W.Frag) (C:Addr):Prop where
 pg:PySem.W.plainGet K C Str.empty = true
 hd:PySem.W.hasDictIn K C = true
 po:PySem.W.plainOver K C = true
 sa:PySem.W.findIn K (.ref C) "__setattr__" = some (some (.builtin "object.__setattr__"))
theorem Cls.get {K:PySem.W.Frag} {C:Addr} (c:Cls K C) (f:Str):PySem.W.plainGet K C f = true:=c.pg
structure Con (K:PySem.W.Frag) (C:Addr) (f:Str) (v:V) (u:Value):Prop where
 at_:PySem.W.findIn K (.ref C) f = some (some u)
 rel:RelV v u
 get:PySem.W.specialIn K u "__get__" = some none
 cp:PySem.W.copiedNames.contains f = false
structure Meth (K:PySem.W.Frag) (C:Addr) (m:Str) (f:Addr):Prop where
 at_:PySem.W.findIn K (.ref C) m = some (some (.ref f))
 fn:PySem.W.isFn K (.ref f) = true
 kp:PySem.W.keepIn K (.ref f) = true
section
variable {X:Cx} {pins:List (Addr×Obj)} {σ:St} {H:Hp} {s:Shared} {a C dx:Addr} {fs:List (Str×V)} {f:Str} {v:V} {A:Around} {E:Value→Shared→Prop}
theorem Inv.made (I:Inv X pins σ H s):Inv X pins σ (upd (upd H s.heap.objs.size (.own (s.heap.objs.size+1))) (s.heap.objs.size+1) (.ins C s.heap.objs.size []))
  { s with heap:=(s.heap.push PySem.W.emptyDict).push (PySem.W.instObj C s.heap.objs.size) }:=by
 have e1:(s.heap.push PySem.W.emptyDict).get? s.heap.objs.size = some PySem.W.emptyDict:=Heap.get?_push_size s.heap rfl
 have e2:((s.heap.push PySem.W.emptyDict).push (PySem.W.instObj C s.heap.objs.size)).get? (s.heap.objs.size+1) = some (PySem.W.instObj C s.heap.objs.size):=by
  have:=Heap.get?_push_size (s.heap.push PySem.W.emptyDict) (o:=PySem.W.instObj C s.heap.objs.size) rfl
  rwa [Heap.size_push] at this
 have e3:(s.heap.push PySem.W.emptyDict).Ns s.heap.objs.size (fun _=>none):=⟨PySem.W.emptyDict,#[],_,e1,rfl,(fun e he=>absurd he (by simp)),fun _=>rfl⟩
 have I1:=I.laid (a:=s.heap.objs.size) (o:=.own (s.heap.objs.size+1)) (h':=s.heap.push PySem.W.emptyDict) (t':=s.toks) (fun b u q=>Heap.get?_push_of_some _ q) (Nat.le_refl _) ⟨_,e1⟩
 refine I1.laid (a:=s.heap.objs.size+1) (o:=.ins C s.heap.objs.size []) (t':=s.toks) (fun b u q=>Heap.get?_push_of_some _ q) (Nat.le_of_eq (Heap.size_push _ _)) ?_
 have ne:s.heap.objs.size ≠ s.heap.objs.size+1:=Nat.ne_of_lt (Nat.lt_succ_self _)
 refine ⟨by rw [upd_ne ne,upd_same],Nat.zero_le _,ne,e2,fun _=>none,(Heap.Ns1.of_empty e3).at fun o q=>Heap.get?_push_of_some _ q,fun _=>True.intro,fun y hy=>absurd rfl hy⟩
end
section
variable {X:Cx} {o e value:Expr} {f:Str} {pos pos' tpos:Pos} {ta tv:TE}
end
section
variable {X:Cx} {pins:List (Addr×Obj)} {σ:St} {H:Hp} {s:Shared} {A:Around} {E:Value→Shared→Prop} {Q:Value→Shared→Prop} {c:Value} {b:Bool}
inductive TyOf (K:PySem.W.Frag) (H:Hp):V→Value→Prop where
 | non:TyOf K H .non (.type "NoneType")
 | bl (x:Bool):TyOf K H (.bl x) (.type "bool")
 | int (i:Int):TyOf K H (.int i) (.type "int")
 | str (x:Str):TyOf K H (.str x) (.type "str")
 | flt (x:UInt64):TyOf K H (.flt x) (.type "float")
 | lst {a:Addr} {xs:List V} (e:H a = some (.lst xs)):TyOf K H (.ref a) (.type "list")
 | frz {a:Addr} {o:Obj} {xs:List V} (e:H a = some (.frz o (.lst xs))):TyOf K H (.ref a) (.type "list")
 | tup {a:Addr} {xs:List V} (e:H a = some (.tup xs)):TyOf K H (.ref a) (.type "tuple")
 | dK {a:Addr} {kvs:List (Key×V)} (e:H a = some (.dK kvs)):TyOf K H (.ref a) (.type "dict")
 | dT {a:Addr} {kvs:List (List Key×V)} (e:H a = some (.dT kvs)):TyOf K H (.ref a) (.type "dict")
 | ins {a C dx:Addr} {fs:List (Str×V)} (e:H a = some (.ins C dx fs)) (cl:Cls K C) (ha:PySem.W.findIn K (.ref C) "__class__" = some (some (.builtin "object.__class__")))
   (hn:PySem.W.specialIn K (.builtin "object.__class__") "__get__" = some (some (.builtin "getset_descriptor.__get__"))) (htk:PySem.W.takesIn K (.builtin "object.__class__") = some true)
   (hm:PySem.W.mroIn K C (.type "object") = some true):TyOf K H (.ref a) (.ref C)
end
end L2
namespace L2
open PySem PySem.Spec PyProof.Rows
structure Room (k:Nat) (A:Around):Prop where
 hd:A.handled = none
 dp:A.depth+3 * k+5 < recursionLimit
 un:A.units+16 * k+200 < cLine
 gd:A.guards = some []
theorem Room.mono {j k:Nat} {A:Around} (r:Room k A) (h:j≤k):Room j A:=⟨r.hd,by have:=r.dp; omega,by have:=r.un; omega,r.gd⟩
theorem Room.deeper {k:Nat} {A:Around} (r:Room (k+1) A) (env:Env):Room k (A.deeper env) :=
 ⟨r.hd,by have:=r.dp; show A.depth+1+3 * k+5 < _; omega,by have:=r.un; show A.units+3+16 * k+200 < _; omega,r.gd⟩
theorem Room.in1 {k:Nat} {A:Around} (r:Room (k+1) A):Room k A.in1 :=
 ⟨r.hd,by have:=r.dp; show A.depth+3 * k+5 < _; omega,by have:=r.un; show A.units+1+16 * k+200 < _; omega,r.gd⟩
theorem Room.depth {k:Nat} {A:Around} (r:Room k A):A.depth < recursionLimit:=by have:=r.dp; omega
theorem Room.units {k:Nat} {A:Around} (r:Room k A):A.units+64 < cLine:=by have:=r.un; omega
def tNil:TA:=fun _ H Q=>Q [] H
def tCons (ta:TE) (tr:TA):TA:=fun σ H Q=>ta σ H fun x H1=>tr σ H1 fun xs H2=>Q (x :: xs) H2
section
variable {X:Cx} {e:Expr} {es:List Expr} {te:TE} {t:TA} {pos:Pos}
theorem pa_nil:PA X [] tNil:=fun _ _ _ _ H Q I h=>Calls.spliced_nil ⟨[],H,I,.nil,h⟩
theorem pa_cons (ha:PE X e te) (hr:PA X es t) (hs:starEach (e :: es) X.env = (false,eval e X.env) :: starEach es X.env:=by rfl):PA X (e :: es) (tCons te t):=by
 intro pos pins s σ H Q I h
 rw [hs]
 show wpAny _ _ (spliced ((false,eval e X.env) :: backTo pos (starEach es X.env))) _ _ s
 refine Calls.spliced_cons (thn (ha pins s σ H _ I h) fun u s1 ⟨x,H1,I1,r1,q1⟩=>?_)
 exact thn (hr pos pins s1 σ H1 _ I1 q1) fun us s2 ⟨xs,H2,I2,r2,q2⟩=>⟨x :: xs,H2,I2,.cons r1 r2,q2⟩
def tTup (t:TA):TE:=fun σ H Q=>t σ H fun xs H1=>xs.length≤sizeLine∧∀ p,H1 p = none→Q (.ref p) (upd H1 p (.tup xs))
def tLst (t:TA):TE:=fun σ H Q=>t σ H fun xs H1=>xs.length≤sizeLine∧∀ p,H1 p = none→Q (.ref p) (upd H1 p (.lst xs))
theorem pe_tup {x1} (h:PA X es t):PE X (.Tuple es x1 pos) (tTup t):=by
 intro pins s σ H Q I hq
 refine wpAny_Tuple_spliced (thn (h pos pins s σ H _ I hq) fun us s1 ⟨xs,H1,I1,r,z,q⟩=>⟨by rw [← r.length]; exact z,?_⟩)
 have hf:H1 s1.heap.objs.size = none:=I1.hok.fresh (Nat.le_refl _)
 refine ⟨.ref s1.heap.objs.size,upd H1 s1.heap.objs.size (.tup xs),I1.laid (t':=s1.toks) (fun b u e=>Heap.get?_push_of_some _ e) (Nat.le_refl _) ?_,rfl,q _ hf⟩
 exact ⟨z,us,r,⟨_,Heap.get?_push_size _ rfl,rfl,_,rfl⟩⟩
theorem pe_lst (h:PA X es t):PE X (.List es pos) (tLst t):=by
 intro pins s σ H Q I hq
 refine wpAny_List_spliced (thn (h pos pins s σ H _ I hq) fun us s1 ⟨xs,H1,I1,r,z,q⟩=>⟨by rw [← r.length]; exact z,?_⟩)
 have hf:H1 s1.heap.objs.size = none:=I1.hok.fresh (Nat.le_refl _)
 refine ⟨.ref s1.heap.objs.size,upd H1 s1.heap.objs.size (.lst xs),I1.laid (t':=s1.toks) (fun b u e=>Heap.get?_push_of_some _ e) (Nat.le_refl _) ?_,rfl,q _ hf⟩
 exact ⟨z,us,0,r,Heap.get?_push_size _ rfl⟩
end
abbrev Sp:=List V→Hp→VK→XK→Prop
abbrev CXT:=List Env→Hp→Shared→XK→Value→Shared→Prop
structure Env0 (P:Program) (w:World) (K:PySem.W.Frag) (mg:Str→Option Value) (base:Heap) (A:Around) (outer:List Env) (s:Shared) (H:Hp):Prop where
 frames:A.frames = some outer
 mod:Mod K mg base
 bs:∀ b o,base.get? b = some o→s.heap.get? b = some o∧H b = none
 bsz:base.objs.size≤s.heap.objs.size
 funs:s.heap.FunFrames base outer
 frf:∀ b ∈ frs outer,H b = none
 hok:HOk P w H s.heap
 bare:AllBare s.gens
def CE (outer:List Env) (P:Program) (w:World) (H:Hp) (s:Shared) (Q:VK) (u:Value) (s':Shared):Prop :=
 ∃ v H',s'.os = s.os∧AllBare s'.gens∧Un (frs outer) [] H H' s.heap s'.heap∧HOk P w H' s'.heap∧RelV v u∧Q v H'
def CR (CX:CXT) (outer:List Env) (P:Program) (w:World) (H:Hp) (s:Shared) (Q:VK) (E:XK) (r:Result) (s':Shared):Prop :=
 match r with
 | .ok (.ret u)=>CE outer P w H s Q u s'
 | .ok _=>False
 | .error e=>CX outer H s E e s'
structure FnOk (P:Program) (w:World) (K:PySem.W.Frag) (mg:Str→Option Value) (base:Heap) (CX:CXT) (k:Nat) (f:Addr) (fd:FuncData) (ps:List Str) (sp:Sp):Prop where
 len:∀ vs H Q E,sp vs H Q E→vs.length = ps.length
 run:∀ (A:Around) (outer:List Env) (s:Shared) (H:Hp) (args:Args) (us:List Value) (vs:List V) (Q:VK) (E:XK),Room k A→Env0 P w K mg base A outer s H→BindsTo s fd args (ps.zip us)→Vals vs us→sp vs H Q E →
  codeAny (model P w) A (.call (.ref f) args) (CR CX outer P w H s Q E) s
theorem FnOk.mono {P:Program} {w:World} {K:PySem.W.Frag} {mg:Str→Option Value} {base:Heap} {CX:CXT} {j k:Nat} {f:Addr} {fd:FuncData} {ps:List Str} {sp:Sp} (F:FnOk P w K mg base CX j f fd ps sp) (h:j≤k) :
  FnOk P w K mg base CX k f fd ps sp:=⟨F.len,fun A outer s H args us vs Q E hr=>F.run A outer s H args us vs Q E (hr.mono h)⟩
theorem FnOk.imp {P:Program} {w:World} {K:PySem.W.Frag} {mg:Str→Option Value} {base:Heap} {CX:CXT} {k:Nat} {f:Addr} {fd:FuncData} {ps:List Str} {sp sp':Sp} (F:FnOk P w K mg base CX k f fd ps sp)
  (h:∀ vs H Q E,sp' vs H Q E→sp vs H Q E):FnOk P w K mg base CX k f fd ps sp' :=
 ⟨fun vs H Q E q=>F.len vs H Q E (h _ _ _ _ q),fun A outer s H args us vs Q E hr he hb hv hs=>F.run A outer s H args us vs Q E hr he hb hv (h _ _ _ _ hs)⟩
theorem Env0.in1 {P:Program} {w:World} {K:PySem.W.Frag} {mg:Str→Option Value} {base:Heap} {A:Around} {outer:List Env} {s:Shared} {H:Hp} (e:Env0 P w K mg base A outer s H) :
  Env0 P w K mg base A.in1 outer s H:=⟨e.frames,e.mod,e.bs,e.bsz,e.funs,e.frf,e.hok,e.bare⟩
section
variable {X:Cx} {pins:List (Addr×Obj)} {σ:St} {H:Hp} {s s':Shared}
theorem Inv.env0 (I:Inv X pins σ H s):Env0 X.prog X.w X.K X.mg X.base X.A X.stack s H :=
 ⟨I.ok.frames,I.ok.mod,I.bs,Nat.le_trans I.ok.bsz I.sz,I.stack,I.stkFree,I.hok,I.bare⟩
theorem Inv.after {Q:VK} {u:Value} (I:Inv X pins σ H s) (h:CE X.stack X.prog X.w H s Q u s'):EP X pins σ Q u s':=by
 obtain ⟨v,H',os,bare,un,hok,r,q⟩:=h
 obtain ⟨hh,g,d,t,os'⟩:=s'
 obtain rfl:os' = s.os:=os
 exact ⟨v,H',I.call (h':=hh) (g':=g) (d':=d) (t':=t) (ch:=[]) un hok bare (fun b z=>absurd z (by simp)),r,q⟩
end
def tCall (sp:Sp) (dvs:List V) (E:XK) (t:TA):TE:=fun σ H Q=>t σ H fun vs H1=>sp (vs++dvs) H1 Q E
def Binds (K:PySem.W.Frag) (fd:FuncData) (ps:List Str) (ds:List Value):Prop :=
 ∀ (s:Shared) (us:List Value),K.In s.heap→(us++ds).length = ps.length→BindsTo s fd ⟨us,[]⟩ (ps.zip (us++ds))
theorem Binds.all {K:PySem.W.Frag} {fd:FuncData} {ps:List Str} (h:∀ us:List Value,us.length = ps.length→bindArgs fd ⟨us,[]⟩ = pure (ps.zip us)):Binds K fd ps []:=fun s us _ hl=>by
 rw [List.append_nil] at hl ⊢
 exact .of_eq (h us hl)
def Passes (CX:CXT) (X:Cx) (E:XK):Prop:=∀ (pins:List (Addr×Obj)) (σ:St) (H:Hp) (s:Shared) (e:Value) (s':Shared),Inv X pins σ H s→CX X.stack H s E e s'→X.xe e s'
section
variable {X:Cx} {CX:CXT} {k:Nat} {f C:Addr} {fd:FuncData} {ps:List Str} {sp:Sp} {dvs:List V} {ds:List Value} {E:XK} {x m:Str} {p pos apos:Pos} {e o:Expr} {es:List Expr} {ta:TE} {t:TA}
theorem run_fn {pins:List (Addr×Obj)} {σ:St} {H:Hp} {s:Shared} {Q:VK} {us:List Value} {vs:List V} (F:FnOk X.prog X.w X.K X.mg X.base CX k f fd ps sp) (hr:Room k X.A) (hb:Binds X.K fd ps ds) (hd:Vals dvs ds) (hx:Passes CX X E)
  (I:Inv X pins σ H s) (r:Vals vs us) (h:sp (vs++dvs) H Q E):wpAny (model X.prog X.w) X.A (call (.ref f) us) (EP X pins σ Q) X.xe s:=by
 have r2:Vals (vs++dvs) (us++ds):=r.append hd
 have hl:(us++ds).length = ps.length:=by rw [← r2.length]; exact F.len _ _ _ _ h
 refine wpAny_call (codeAny_mono (F.run X.A X.stack s H ⟨us,[]⟩ (us++ds) (vs++dvs) Q E hr I.env0 (hb s us I.kIn hl) r2 h) fun r s' hq=>?_)
 cases r with
 | error e=>exact hx pins σ H s e s' I hq
 | ok fl =>
  cases fl with
  | ret u=>exact I.after hq
  | next=>exact False.elim hq
  | brk=>exact False.elim hq
  | cont=>exact False.elim hq
theorem pe_call (F:FnOk X.prog X.w X.K X.mg X.base CX k f fd ps sp) (hr:Room k X.A) (hg:Gl X x) (hm:X.mg x = some (.ref f)) (hk:PySem.W.keepIn X.K (.ref f) = true) (hb:Binds X.K fd ps ds) (hd:Vals dvs ds) (hx:Passes CX X E)
  (ha:PA X (e :: es) t) (hdb:(x == ("__debug__":Str)) = false:=by decide) (he:starEach (e :: es) X.env = (false,eval e X.env) :: starEach es X.env:=by rfl) (hpl:(backTo pos (starEach es X.env)).any (·.1) = false:=by rfl) :
  PE X (.Call (.Name x p) (e :: es) [] pos) (tCall sp dvs E t):=by
 intro pins s σ H Q I h
 refine wpAny_Call_Name_kw (ld_glob I hg hm ?_ hdb)
 refine PySem.W.callWith_K (h₀:=X.base) I.ok.mod.kin hk (thn (ha pos pins s σ H _ I h) fun us s1 ⟨vs,H1,I1,r,q⟩=>⟨I1.kIn,?_⟩) he hpl
 exact run_fn F hr hb hd hx I1 r q
structure Mk (K:PySem.W.Frag) (C f:Addr):Prop where
 makes:PySem.W.makesIn K C = true
 init:PySem.W.findIn K (.ref C) "__init__" = some (some (.ref f))
 fn:PySem.W.isFn K (.ref f) = true
 kp:PySem.W.keepIn K (.ref C) = true
end
section
variable {X:Cx} {CX:CXT} {k:Nat} {f C:Addr} {fd:FuncData} {ps ks:List Str} {sp:Sp} {E:XK} {x m:Str} {p pos apos kpos:Pos} {e o:Expr} {es:List Expr} {kws:List Keyword} {te ta:TE} {t tk:TA} {nm:Option Str}
structure KBinds (K:PySem.W.Frag) (fd:FuncData) (ps ks:List Str) (g:List Value→List Value→List Value) (gV:List V→List V→List V):Prop where
 to:∀ (s:Shared) (us ws:List Value),K.In s.heap→(g us ws).length = ps.length→BindsTo s fd ⟨us,ks.zip ws⟩ (ps.zip (g us ws))
 rel:∀ {vs:List V} {us:List Value} {zs:List V} {ws:List Value},Vals vs us→Vals zs ws→Vals (gV vs zs) (g us ws)
variable {g:List Value→List Value→List Value} {gV:List V→List V→List V}
end
structure FnScope (N P:List Str) (sc:Scope):Prop where
 kind:sc.kind = .function
 co:sc.isCoroutine = false
 gen:sc.isGenerator = false
 nd:N.Nodup
 pre:N.take P.length = P
 par:∀ x ∈ P,sc.names.lookup x = some .local∨sc.names.lookup x = some .cell
 nofree:∀ y ∈ sc.names,y.2 ≠ .free
theorem bindL_out {kindOf:Str→Option NameKind} {x:Str}:∀ {binds:List (Str×Value)} {m:Str→Option Value},(∀ v,(x,v) ∉ binds)→bindL kindOf binds m x = m x
 | [],_,_=>rfl
 | (n,v) :: r,m,h=>by
  unfold bindL
  rw [bindL_out fun w hw=>h w (List.mem_cons_of_mem _ hw)]
  split
  ·have:x ≠ n:=by rintro rfl; exact h v List.mem_cons_self
   simp [this]
  ·rfl
theorem bindC_out {kindOf:Str→Option NameKind} {x:Str}:∀ {binds:List (Str×Value)} {m:Str→Option Value},(∀ v,(x,v) ∉ binds)→bindC kindOf binds m x = m x
 | [],_,_=>rfl
 | (n,v) :: r,m,h=>by
  unfold bindC
  rw [bindC_out fun w hw=>h w (List.mem_cons_of_mem _ hw)]
  split
  ·rfl
  ·have:x ≠ n:=by rintro rfl; exact h v List.mem_cons_self
   simp [this]
theorem bindL_get {kindOf:Str→Option NameKind} {x:Str} {v:Value}:∀ {P:List Str} {vs:List Value} {i:Nat} {m:Str→Option Value},P.Nodup→P[i]? = some x→vs[i]? = some v→kindOf x = some .local →
  bindL kindOf (P.zip vs) m x = some v
 | [],_,_,_,_,h,_,_=>by simp at h
 | _ :: _,[],_,_,_,_,h,_=>by simp at h
 | p :: P,w :: vs,0,m,nd,h1,h2,hk=>by
  simp at h1 h2; subst h1; subst h2
  show bindL kindOf ((p,w) :: P.zip vs) m p = _
  unfold bindL
  rw [bindL_out fun v hv=>(List.nodup_cons.mp nd).1 (List.of_mem_zip hv).1,if_pos hk]
  simp
 | p :: P,w :: vs,i+1,m,nd,h1,h2,hk=>by
  show bindL kindOf ((p,w) :: P.zip vs) m x = _
  unfold bindL
  exact bindL_get (i:=i) (List.nodup_cons.mp nd).2 (by simpa using h1) (by simpa using h2) hk
theorem bindC_get {kindOf:Str→Option NameKind} {x:Str} {v:Value}:∀ {P:List Str} {vs:List Value} {i:Nat} {m:Str→Option Value},P.Nodup→P[i]? = some x→vs[i]? = some v→kindOf x ≠ some .local →
  bindC kindOf (P.zip vs) m x = some v
 | [],_,_,_,_,h,_,_=>by simp at h
 | _ :: _,[],_,_,_,_,h,_=>by simp at h
 | p :: P,w :: vs,0,m,nd,h1,h2,hk=>by
  simp at h1 h2; subst h1; subst h2
  show bindC kindOf ((p,w) :: P.zip vs) m p = _
  unfold bindC
  rw [bindC_out fun v hv=>(List.nodup_cons.mp nd).1 (List.of_mem_zip hv).1,if_neg hk]
  simp
 | p :: P,w :: vs,i+1,m,nd,h1,h2,hk=>by
  show bindC kindOf ((p,w) :: P.zip vs) m x = _
  unfold bindC
  exact bindC_get (i:=i) (List.nodup_cons.mp nd).2 (by simpa using h1) (by simpa using h2) hk
def start (N:List Str) (vs:List V):St:=vs.map some++List.replicate (N.length - vs.length) none
def cxOf (CX:CXT) (P:Program) (w:World) (K:PySem.W.Frag) (mg:Str→Option Value) (base:Heap) (N:List Str) (qual:Str) (scope:Scope) (f:Addr) (cd:Value) (A:Around) (outer:List Env) (s:Shared) (H:Hp) (E:XK):Cx where
 prog:=P
 w:=w
 K:=K
 mg:=mg
 base:=base
 A:=A.deeper (envOfC qual scope s.heap.objs.size f cd)
 N:=N
 s₀:=s
 H₀:=H
 env:=envOfC qual scope s.heap.objs.size f cd
 outer:=outer
 stack:=envOfC qual scope s.heap.objs.size f cd :: outer
 ex:=[]
 calm:=true
 fn:=fun _=>true
 pn:=[]
 xe:=fun e s'=>wpAny (model P w) (A.deeper (envOfC qual scope s.heap.objs.size f cd)) (leaving (envOfC qual scope s.heap.objs.size f cd) e) (fun _ s''=>CX outer H s E e s'') (fun e' s''=>CX outer H s E e' s'') s'
theorem cell_has {sc:Scope} {n:Nat} {x:Str} (h:sc.names.lookup x = some .cell):∃ c,(cellsFrom n sc.names []).lookup x = some c:=by
 have q:=PySem.W.cellsFrom_some sc.names n [] (.inl h)
 exact Option.isSome_iff_exists.mp q
theorem inv_start {CX:CXT} {P:Program} {w:World} {K:PySem.W.Frag} {mg:Str→Option Value} {base:Heap} {N ps:List Str} {qual:Str} {scope:Scope} {f:Addr} {cd:Value} {A:Around} {outer:List Env} {s s1:Shared} {H:Hp} {E:XK} {us:List Value} {vs:List V}
  (S:FnScope N ps scope) (hd:A.handled = none) (e0:Env0 P w K mg base A outer s H) (hl:vs.length = ps.length) (r:Vals vs us)
  (x:InCallC s s.heap.objs.size (bindL (envOfC qual scope s.heap.objs.size f cd).kindOf (ps.zip us) fun _=>none) (cellsFrom (s.heap.objs.size+1) scope.names []) (bindC (envOfC qual scope s.heap.objs.size f cd).kindOf (ps.zip us) fun _=>none) s1) :
  Inv (cxOf CX P w K mg base N qual scope f cd A outer s H E) [] (start N vs) H s1:=by
 have hpl:ps.length≤N.length:=by have:=congrArg List.length S.pre; rw [List.length_take] at this; omega
 obtain ⟨h1,tk,rfl,hk⟩:=x.done
 have noA:∀ b:Addr,b ∉ (cxOf CX P w K mg base N qual scope f cd A outer s H E).ex:=fun b z=>absurd (show b ∈ ([]:List Addr) from z) (by simp)
 refine ⟨⟨e0.mod,S.kind,rfl,rfl,Nat.le_refl _,fun y z c h1 h2=>?_,fun y hy=>?_,fun y c _ h=>?_,fun _=>hd,Around.frames_deeper e0.frames,.inr ⟨rfl,rfl⟩,fun b z=>absurd z (noA b),e0.bs,e0.bsz,fun b _ _=>noA b,fun b z=>absurd z (noA b),e0.funs,e0.frf⟩,
  rfl,e0.bare,Un.kept hk,⟨_,x.toInCall.ns,fun i y v h1 h2 h3=>?_⟩,fun y c h=>⟨_,x.cell y c h⟩,e0.hok.fresh (Nat.le_refl _),fun y c h=>?_,fun p hp=>absurd (show p ∈ ([]:List (Addr×Obj)) from hp) (by simp),e0.hok.kept hk,?_⟩
 ·exact name_of_addr x.apart (PySem.mem_of_lookup h1) (PySem.mem_of_lookup h2)
 ·have hy:scope.names.lookup y = some .cell∨scope.names.lookup y = some .free:=hy
  rcases hy with hy | hy
  ·exact cell_has hy
  ·exact absurd rfl (S.nofree _ (PySem.mem_of_lookup hy))
 ·exact Nat.le_of_lt (x.above y c (PySem.mem_of_lookup h))
 ·have hi:i < vs.length:=by
   unfold start at h2
   by_cases hi:i < vs.length
   ·exact hi
   ·rw [List.getElem?_append_right (by simpa using hi)] at h2
    rw [List.getElem?_replicate] at h2
    split at h2 <;> cases h2
  have ha:vs[i]? = some v:=by
   unfold start at h2
   rw [List.getElem?_append_left (by simpa using hi),List.getElem?_map] at h2
   cases e:vs[i]? with
   | none=>rw [e] at h2; cases h2
   | some a=>rw [e] at h2; cases h2; rfl
  obtain ⟨u,hu,rv⟩:=r.get ha
  have hp:ps[i]? = some y:=by
   rw [← S.pre,List.getElem?_take_of_lt (by omega)]; exact h1
  have ndP:ps.Nodup:=by rw [← S.pre]; exact S.nd.sublist (List.take_sublist _ _)
  refine ⟨u,rv,?_⟩
  rcases S.par y (List.mem_of_getElem? hp) with k | k
  ·exact .inl ⟨k,bindL_get ndP hp hu k⟩
  ·obtain ⟨c,e⟩:=cell_has (n:=s.heap.objs.size+1) k
   refine .inr ⟨.inl k,c,e,?_⟩
   have q:=x.cell y c e
   rw [bindC_get ndP hp hu (by show scope.names.lookup y ≠ _; rw [k]; decide)] at q
   exact q
 ·exact e0.hok.fresh (Nat.le_of_lt (x.above y c (PySem.mem_of_lookup h)))
 ·unfold start
  show _ = N.length
  rw [List.length_append,List.length_map,List.length_replicate]
  omega
theorem fn_of {CX:CXT} {P:Program} {w:World} {K:PySem.W.Frag} {mg:Str→Option Value} {base:Heap} {k:Nat} {f:Addr} {name qual:Str} {params:Arguments} {body:List Stmt} {scope:Scope} {dV kV doc pm cdv ct oc:Value} {an od:Option Addr}
  {osl:Array (Option Value)} {N ps:List Str} {sp:Sp} (lk:K.lookup f = some ⟨oc,od,.func (PySem.W.fnOf name qual params body scope dV kV doc pm an cdv ct),osl⟩) (hcd:PySem.W.codeIn K cdv qual = true) (S:FnScope N ps scope)
  (len:∀ vs H Q E,sp vs H Q E→vs.length = ps.length)
  (hbody:∀ (A:Around) (outer:List Env) (s:Shared) (H:Hp) (vs:List V) (Q:VK) (E:XK),Room k (A.deeper (envOfC qual scope s.heap.objs.size f cdv))→sp vs H Q E →
   ∃ t,PSs (cxOf CX P w K mg base N qual scope f cdv A outer s H E) body t∧t { nx:=fun _ H'=>Q .non H',rt:=Q } (start N vs) H) :
  FnOk P w K mg base CX (k+1) f (PySem.W.fnOf name qual params body scope dV kV doc pm an cdv ct) ps sp:=by
 refine ⟨len,fun A outer s H args us vs Q E hr e0 hb r hsp=>?_⟩
 have hl:=len _ _ _ _ hsp
 have KX:K.In s.heap:=e0.mod.kin.keeps fun b o e=>(e0.bs b o e).1
 have lim:s.heap.NoLimit:=e0.mod.nolimit.keeps fun b o e=>(e0.bs b o e).1
 have hkind:∀ y ∈ ps.zip us,scope.names.lookup y.1 = some .local∨(scope.names.lookup y.1 = some .cell∧((cellsFrom (s.heap.objs.size+1) scope.names []).lookup y.1).isSome = true):=fun ⟨n,v⟩ hy=>by
  rcases S.par n (List.of_mem_zip hy).1 with q | q
  ·exact .inl q
  ·exact .inr ⟨q,PySem.W.cellsFrom_some _ _ _ (.inl q)⟩
 refine codeAny_call_function hr.depth (KX _ _ lk) rfl S.co S.gen rfl (PySem.W.codeRec_of KX hcd) (hb _ _ _ _ ?_)
 refine wpAny_newFunctionEnv_cells S.kind hkind fun env he s1 x=>?_
 subst he
 refine ⟨lim.keeps x.toInCall.keep,codeAny_func ?_⟩
 obtain ⟨t,ht,hq⟩:=hbody A outer s H vs Q E (hr.deeper _) hsp
 have I:Inv (cxOf CX P w K mg base N qual scope f cdv A outer s H E) [] (start N vs) H s1:=inv_start S hr.hd e0 hl r x
 refine wpAny_mono (ht [] s1 (start N vs) H _ I hq) (fun fl s' hs=>?_) fun e s' hs=>hs
 have fin:∀ {σ':St} {H':Hp} {v:V} {u:Value},Inv (cxOf CX P w K mg base N qual scope f cdv A outer s H E) [] σ' H' s'→RelV v u→Q v H'→CE outer P w H s Q u s' :=
  fun {σ' H' v u} J rv q=>⟨v,H',J.os,J.bare,J.base,J.hok,rv,q⟩
 cases fl with
 | ret u =>
  obtain ⟨v,σ',H',J,rv,q⟩:=hs
  exact fin J rv q
 | next =>
  obtain ⟨σ',H',J,q⟩:=hs
  exact fin (v:=V.non) (u:=Value.none) J rfl q
 | brk =>
  obtain ⟨_,_,_,q⟩:=hs
  exact False.elim q
 | cont =>
  obtain ⟨_,_,_,q⟩:=hs
  exact False.elim q
end L2
namespace L2
open PySem PySem.Spec PyProof.Rows
section
variable {X:Cx} {x:Str} {p pos:Pos} {e:Expr} {es:List Expr} {t:TA} {id T:String} {r:List V→Hp→VK→Prop}
def tCB (r:List V→Hp→VK→Prop) (t:TA):TE:=fun σ H Q=>t σ H fun vs H1=>r vs H1 Q
theorem pe_callB (hc:CallR X (.builtin id) r) (hg:Gl X x) (hm:X.mg x = none) (hv:bootBuiltins x = some (.builtin id)) (ha:PA X (e :: es) t) (hn:x ≠ "__name__":=by decide) (hdb:(x == ("__debug__":Str)) = false:=by decide)
  (he:starEach (e :: es) X.env = (false,eval e X.env) :: starEach es X.env:=by rfl) (hpl:(backTo pos (starEach es X.env)).any (·.1) = false:=by rfl):PE X (.Call (.Name x p) (e :: es) [] pos) (tCB r t):=by
 intro pins s σ H Q I h
 refine wpAny_Call_Name_kw (ld_blt I hg hm hv ?_ hn hdb)
 exact PyProof.Rows.callWith_builtin1 (thn (ha pos pins s σ H _ I h) fun us s1 ⟨vs,H1,I1,r1,q1⟩=>hc pins s1 σ H1 vs us Q I1 r1 q1) he hpl
theorem pe_callTy (hc:CallR X (.type T) r) (hg:Gl X x) (hm:X.mg x = none) (hv:bootBuiltins x = some (.type T)) (ha:PA X (e :: es) t) (hn:x ≠ "__name__":=by decide) (hdb:(x == ("__debug__":Str)) = false:=by decide)
  (he:starEach (e :: es) X.env = (false,eval e X.env) :: starEach es X.env:=by rfl) (hpl:(backTo pos (starEach es X.env)).any (·.1) = false:=by rfl):PE X (.Call (.Name x p) (e :: es) [] pos) (tCB r t):=by
 intro pins s σ H Q I h
 refine wpAny_Call_Name_kw (ld_blt I hg hm hv ?_ hn hdb)
 exact PyProof.Rows.callWith_type1 (thn (ha pos pins s σ H _ I h) fun us s1 ⟨vs,H1,I1,r1,q1⟩=>hc pins s1 σ H1 vs us Q I1 r1 q1) he hpl
end
end L2
namespace HT
open PySem PyProof.Rows
section
open PySem.SeqAt
open PySem.AutoSeq1 (wpAny_loadPart')
open PySem.MeetsSeq PySem.MeetsSeq2 PySem.MeetsSeq3
end
section
variable {prog:Program} {w:World} {A:Around} {E:Value→Shared→Prop} {s:Shared}
def sIx (n d:Nat):Option Int→Nat
 | none=>d
 | some v=>if v < 0 then (v+(n:Int)).toNat else min v.toNat n
theorem sIx_nat (n d k:Nat):sIx n d (some (k:Int)) = min k n:=by
 show (if (k:Int) < 0 then ((k:Int)+(n:Int)).toNat else min (k:Int).toNat n) = min k n
 rw [if_neg (by omega),Int.toNat_natCast]
end
end HT
namespace L2
open PySem PySem.Spec PyProof.Rows
abbrev TO:=St→Hp→(Option Int→Hp→Prop)→Prop
def PO (X:Cx) (e:Option Expr) (t:TO):Prop :=
 ∀ (pins:List (Addr×Obj)) (s:Shared) (σ:St) (H:Hp) (Q:Option Int→Hp→Prop),Inv X pins σ H s→t σ H Q →
  wpAny (model X.prog X.w) X.A (evalPart e X.env) (fun u s'=>∃ o H',Inv X pins σ H' s'∧IsPart u o∧Q o H') X.xe s
def tNoPart:TO:=fun _ H Q=>Q none H
def tPart (t:TE):TO:=fun σ H Q=>t σ H fun x H1=>∃ i,x = .int i∧Q (some i) H1
section
variable {X:Cx} {e:Expr} {te:TE} {lo hi:Option Expr} {tl th:TO} {pos p2:Pos}
theorem po_none:PO X none tNoPart:=by
 intro pins s σ H Q I h
 rw [evalPart_none]
 exact wpAny_pure ⟨none,H,I,.none,h⟩
theorem po_some (h:PE X e te):PO X (some e) (tPart te):=by
 intro pins s σ H Q I hw
 rw [evalPart_some]
 refine thn (h pins s σ H _ I hw) fun u s1 ⟨x,H1,I1,r1,q1⟩=>?_
 obtain ⟨i,rfl,q⟩:=q1
 obtain ⟨t,rfl⟩:=r1
 exact ⟨some i,H1,I1,.int i t,q⟩
def SlR (X:Cx) (r:V→Option Int→Option Int→Hp→VK→Prop):Prop :=
 ∀ (pins:List (Addr×Obj)) (s:Shared) (σ:St) (H:Hp) (x:V) (v vl vu:Value) (lo hi:Option Int) (sl:Addr) (Q:VK),Inv X pins σ H s→RelV x v→s.heap.IsSliceOf sl vl vu .none→IsPart vl lo→IsPart vu hi→r x lo hi H Q →
  ∃ T id,typeLookup (.type T) "__getitem__" = pure (some (.builtin id))∧s.TypeIs v T∧wpAny (model X.prog X.w) X.A (getItem v (.ref sl)) (EP X pins σ Q) X.xe s
theorem SlR.or {r r':V→Option Int→Option Int→Hp→VK→Prop} (h:SlR X r) (h':SlR X r'):SlR X (fun x lo hi H Q=>r x lo hi H Q∨r' x lo hi H Q):=by
 intro pins s σ H x v vl vu lo hi sl Q I rx hs pl pu q
 rcases q with q | q
 ·exact h pins s σ H x v vl vu lo hi sl Q I rx hs pl pu q
 ·exact h' pins s σ H x v vl vu lo hi sl Q I rx hs pl pu q
def tSl (r:V→Option Int→Option Int→Hp→VK→Prop) (te:TE) (tl th:TO):TE:=fun σ H Q=>te σ H fun x H1=>tl σ H1 fun l H2=>th σ H2 fun u H3=>r x l u H3 Q
theorem pe_slice {r:V→Option Int→Option Int→Hp→VK→Prop} (hr:SlR X r) (he:PE X e te) (hl:PO X lo tl) (hu:PO X hi th):PE X (.Subscript e (.Slice lo hi none p2) pos) (tSl r te tl th):=by
 intro pins s σ H Q I h
 refine Subscript_ (thn (he pins s σ H _ I h) fun v s1 ⟨x,H1,I1,r1,q1⟩=>?_)
 refine wpAny_Slice (thn (hl pins s1 σ H1 _ I1 q1) fun vl s2 ⟨l,H2,I2,pl,q2⟩=>thn (hu pins s2 σ H2 _ I2 q2) fun vu s3 ⟨u,H3,I3,pu,q3⟩=>?_)
 rw [evalPart_none]
 refine wpAny_pure ?_
 have I4:Inv X pins σ H3 { s3 with heap:=s3.heap.push { cls:=.type "slice",data:=.fields #[vl,vu,.none] } }:=I3.kept (t':=s3.toks) fun b ob q=>Heap.get?_push_of_some _ q
 obtain ⟨T,id,hT,ht,hg⟩:=hr pins { s3 with heap:=s3.heap.push { cls:=.type "slice",data:=.fields #[vl,vu,.none] } } σ H3 x v vl vu l u s3.heap.objs.size Q I4 r1 (Heap.IsSliceOf.new ..) pl pu q3
 show wpAny (model X.prog X.w) X.A (subscriptTail e (.Slice lo hi none p2) v (.ref s3.heap.objs.size)) (EP X pins σ Q) X.xe { s3 with heap:=s3.heap.push { cls:=.type "slice",data:=.fields #[vl,vu,.none] } }
 exact tail_any (ops:=[.ref s3.heap.objs.size,v]) ht hT hg (by with_unfolding_all rfl)
def cutV (xs:List V) (lo hi:Option Int):List V:=(xs.drop (HT.sIx xs.length 0 lo)).take (HT.sIx xs.length xs.length hi - HT.sIx xs.length 0 lo)
theorem cutV_length (xs:List V) (lo hi:Option Int):(cutV xs lo hi).length≤xs.length:=by
 unfold cutV
 rw [List.length_take,List.length_drop]
 omega
end
end L2
namespace L2
open PySem PySem.Spec PyProof.Rows
def ixN (n:Nat) (i:Int):Option Nat:=if 0≤i then (if i < n then some i.toNat else none) else if -(n:Int)≤i then some (i+n).toNat else none
def atI {α:Type} (xs:List α) (i:Int):Option α:=(ixN xs.length i).bind fun j=>xs[j]?
theorem ixN_seq {n:Nat} {i:Int} {j:Nat} (h:ixN n i = some j):seqIndex? i n = some j∧j < n∧-(n:Int)≤i∧i < n:=by
 unfold ixN at h
 by_cases h0:0≤i
 ·rw [if_pos h0] at h
  by_cases h1:i < n
  ·rw [if_pos h1] at h
   have e:i.toNat = j:=Option.some.inj h
   exact ⟨by rw [seqIndex_of h0 h1,e],by omega,by omega,h1⟩
  ·rw [if_neg h1] at h; cases h
 ·rw [if_neg h0] at h
  by_cases h1:-(n:Int)≤i
  ·rw [if_pos h1] at h
   have e:(i+n).toNat = j:=Option.some.inj h
   exact ⟨by rw [seqIndex_neg (by omega) h1,e],by omega,h1,by omega⟩
  ·rw [if_neg h1] at h; cases h
theorem atI_get {α:Type} {xs:List α} {i:Int} {v:α} (h:atI xs i = some v):∃ j,seqIndex? i xs.length = some j∧xs[j]? = some v∧j < xs.length∧-(xs.length:Int)≤i∧i < xs.length:=by
 unfold atI at h
 cases e:ixN xs.length i with
 | none=>rw [e] at h; cases h
 | some j =>
  rw [e] at h
  obtain ⟨h1,h2,h3,h4⟩:=ixN_seq e
  exact ⟨j,h1,h,h2,h3,h4⟩
theorem atI_nat {α:Type} {xs:List α} {j:Nat} {v:α} (h:xs[j]? = some v):atI xs (j:Int) = some v:=by
 have hj:j < xs.length:=(List.getElem?_eq_some_iff.mp h).1
 have e:ixN xs.length (j:Int) = some j:=by
  unfold ixN
  rw [if_pos (by omega),if_pos (by omega)]; simp
 unfold atI; rw [e]; exact h
theorem atI_last {α:Type} (xs:List α) (v:α):atI (xs++[v]) (-1) = some v:=by
 have hl:(xs++[v]).length = xs.length+1:=by simp
 have e:ixN (xs++[v]).length (-1) = some xs.length:=by
  unfold ixN
  rw [hl,if_neg (by decide),if_pos (by omega)]
  congr 1
  omega
 unfold atI
 rw [e]
 show (xs++[v])[xs.length]? = some v
 simp
def PlainIx (b:Expr):Prop:=∀ o i,subscripted b false o i = operate [o,i] (getItem o i)
def IxR (X:Cx) (r:R2):Prop :=
 ∀ (value slice:Expr) (pins:List (Addr×Obj)) (s:Shared) (σ:St) (H:Hp) (x y:V) (v u:Value) (Q:VK),Inv X pins σ H s→RelV x v→RelV y u→r x y H Q →
  subscripted slice false v u = operate [v,u] (getItem v u)→wpAny (model X.prog X.w) X.A (subscriptTail value slice v u) (EP X pins σ Q) X.xe s
def MtR (X:Cx) (id:String) (r:V→List V→Hp→VK→Prop):Prop :=
 ∀ (pins:List (Addr×Obj)) (s:Shared) (σ:St) (H:Hp) (x:V) (xs:List V) (v:Value) (us:List Value) (Q:VK),Inv X pins σ H s→RelV x v→Vals xs us→r x xs H Q →
  wpAny (model X.prog X.w) X.A (call (.builtin id) (v :: us)) (EP X pins σ Q) X.xe s
section
variable {X:Cx} {a b:Expr} {ta tb:TE} {pos:Pos}
theorem IxR.or {r r':R2} (h:IxR X r) (h':IxR X r'):IxR X (fun x y H Q=>r x y H Q∨r' x y H Q):=by
 intro value slice pins s σ H x y v u Q I rx ry q hs
 rcases q with q | q
 ·exact h value slice pins s σ H x y v u Q I rx ry q hs
 ·exact h' value slice pins s σ H x y v u Q I rx ry q hs
theorem MtR.or {id:String} {r r':V→List V→Hp→VK→Prop} (h:MtR X id r) (h':MtR X id r'):MtR X id (fun x xs H Q=>r x xs H Q∨r' x xs H Q):=by
 intro pins s σ H x xs v us Q I rx rs q
 rcases q with q | q
 ·exact h pins s σ H x xs v us Q I rx rs q
 ·exact h' pins s σ H x xs v us Q I rx rs q
theorem pe_ix {r:R2} (hr:IxR X r) (ha:PE X a ta) (hb:PE X b tb) (hs:PlainIx b):PE X (.Subscript a b pos) (tOp r ta tb):=by
 intro pins s σ H Q I h
 exact Subscript_ (binT ha hb I h fun v u s2 x y H2 I2 rx ry q=>hr a b pins s2 σ H2 x y v u Q I2 rx ry q (hs _ _))
def rIxL (K:PySem.W.Frag):R2:=fun x y H Q=>∃ p xs i v,x = .ref p∧y = .int i∧SqL K H p xs∧atI xs i = some v∧Q v H
def rIxT (K:PySem.W.Frag):R2:=fun x y H Q=>∃ p xs i v,x = .ref p∧y = .int i∧SqT K H p xs∧atI xs i = some v∧Q v H
theorem ix_list:IxR X (rIxL X.K):=by
 intro value slice pins s σ H x y v u Q I rx ry h hs
 obtain ⟨p,xs,i,z,rfl,rfl,hq,he,q⟩:=h
 cases rx
 obtain ⟨t,rfl⟩:=ry
 obtain ⟨its,r,pl,hz⟩:=I.list hq
 obtain ⟨j,h1,h2,h3,h4,h5⟩:=atI_get he
 obtain ⟨w,ew,rw'⟩:=r.get h2
 have hl:=r.length
 have hn:=line63
 have fin:EP X pins σ Q w s:=⟨z,H,I,rw',q⟩
 by_cases h0:0≤i
 ·have hj:i.toNat = j:=by
   rw [seqIndex_of h0 h5] at h1
   exact Option.some.inj h1
  exact item_listR pl.isList h0 (by omega) (by rw [hj]; simpa using ew) fin hs
 ·have hj:(i+(its.toArray.size:Int)).toNat = j:=by
   rw [seqIndex_neg (by omega) h4] at h1
   rw [List.size_toArray,← hl]
   exact Option.some.inj h1
  exact subscriptTail_builtinR (x:=w) pl.isList.typeIs slot_list_getitem.lookup
   (wpAny_getItem_list_neg (Q:=fun r s'=>r = w∧EP X pins σ Q r s') pl.isList (by omega) (by rw [List.size_toArray] <;> omega) (by omega) (by rw [hj]; simpa using ew) ⟨rfl,fin⟩) hs
theorem ix_tup:IxR X (rIxT X.K):=by
 intro value slice pins s σ H x y v u Q I rx ry h hs
 obtain ⟨p,xs,i,z,rfl,rfl,hq,he,q⟩:=h
 cases rx
 obtain ⟨t,rfl⟩:=ry
 obtain ⟨its,r,pl,hz⟩:=I.tuple hq
 obtain ⟨j,h1,h2,h3,h4,h5⟩:=atI_get he
 obtain ⟨w,ew,rw'⟩:=r.get h2
 have hl:=r.length
 have hn:=line63
 have fin:EP X pins σ Q w s:=⟨z,H,I,rw',q⟩
 exact subscriptTail_builtinR (x:=w) pl.typeIs slot_tuple_getitem.lookup
  (getItem_tuple (j:=j) (Q:=fun r s'=>r = w∧EP X pins σ Q r s') pl (by omega) (by omega) (by rw [List.size_toArray,← hl]; exact h1) (by simpa using ew) ⟨rfl,fin⟩) hs
theorem Inv.lst {pins:List (Addr×Obj)} {σ:St} {H:Hp} {s:Shared} {p:Addr} {xs:List V} (I:Inv X pins σ H s) (h:H p = some (.lst xs)) :
  ∃ (its:List Value) (n:Nat),Vals xs its∧s.heap.get? p = some { cls:=.type "list",data:=.seq its.toArray n }∧xs.length≤sizeLine:=by
 obtain ⟨z,its,n,r,e⟩:=I.hok p _ h
 exact ⟨its,n,r,e,z⟩
theorem slice_bounds (lo hi:Option Int) (n:Nat):(sliceBounds lo hi none n).1 = ((HT.sIx n 0 lo:Nat):Int)∧(sliceBounds lo hi none n).2.1 = ((HT.sIx n n hi:Nat):Int)∧(sliceBounds lo hi none n).2.2 = 1:=by
 refine ⟨?_,?_,rfl⟩
 ·cases lo with
  | none=>simp [sliceBounds,HT.sIx]
  | some i =>
   simp only [sliceBounds,HT.sIx,Option.getD_none,show (1:Int) > 0 by decide,if_true]
   by_cases h:i < 0
   ·simp only [h,if_true] <;> omega
   ·simp only [h,if_false] <;> omega
 ·cases hi with
  | none=>simp [sliceBounds,HT.sIx]
  | some i =>
   simp only [sliceBounds,HT.sIx,Option.getD_none,show (1:Int) > 0 by decide,if_true]
   by_cases h:i < 0
   ·simp only [h,if_true] <;> omega
   ·simp only [h,if_false] <;> omega
theorem slicePick_cut (its:List Value) (lo hi:Option Int):slicePick its.toArray lo hi none = ((its.drop (HT.sIx its.length 0 lo)).take (HT.sIx its.length its.length hi - HT.sIx its.length 0 lo)).toArray:=by
 obtain ⟨h1,h2,h3⟩:=slice_bounds lo hi its.toArray.size
 unfold slicePick
 rw [h1,h2,h3]
 simp only [sliceRange_one,pick_run,List.size_toArray] <;> rfl
def rSlL (K:PySem.W.Frag):V→Option Int→Option Int→Hp→VK→Prop:=fun x lo hi H Q=>∃ a xs,x = .ref a∧SqL K H a xs∧∀ p,H p = none→Q (.ref p) (upd H p (.lst (cutV xs lo hi)))
theorem sl_list:SlR X (rSlL X.K):=by
 intro pins s σ H x v vl vu lo hi sl Q I rx hs pl pu h
 obtain ⟨a,xs,rfl,hx,q⟩:=h
 cases rx
 obtain ⟨its,r,ht,hz⟩:=I.list hx
 have hlen:=r.length
 refine ⟨"list",_,slot_list_getitem.lookup,ht.isList.typeIs,?_⟩
 refine wpAny_getItem_list_slice ht.isList hs pl pu .none (by simp) ?_ (by rw [List.size_toArray] <;> omega)
 rw [slicePick_cut,← hlen]
 refine ⟨.ref s.heap.objs.size,_,I.laid (t':=s.toks) (o:=.lst (cutV xs lo hi)) (fun b ob q=>Heap.get?_push_of_some _ q) (Nat.le_refl _) ?_,rfl,q _ (I.hok.fresh (Nat.le_refl _))⟩
 exact ⟨Nat.le_trans (cutV_length xs lo hi) hz,_,0,(r.drop (HT.sIx xs.length 0 lo)).take (HT.sIx xs.length xs.length hi - HT.sIx xs.length 0 lo),Heap.get?_push_size _ rfl⟩
def flatV:V→Bool
 | .non=>true
 | .bl _=>true
 | .int _=>true
 | .str _=>true
 | _=>false
def eqV:V→V→Bool
 | .non,.non=>true
 | .bl a,.bl b=>a == b
 | .bl a,.int b=>(if a then 1 else 0) == b
 | .int a,.bl b=>a == (if b then 1 else 0)
 | .int a,.int b=>a == b
 | .str a,.str b=>a == b
 | _,_=>false
theorem eqAt_V {A:Around} {s:Shared} {y x:V} {u v:Value} (ry:RelV y u) (rx:RelV x v) (fy:flatV y = true) (fx:flatV x = true):SeqAt.EqAt A s u v (eqV y x):=by
 cases y with
 | non =>
  cases ry
  cases x with
  | non=>cases rx; exact SeqAt.EqAt.same _
  | bl b=>cases rx; exact SeqAt.EqAt.none_bool b
  | int b=>obtain ⟨t,rfl⟩:=rx; exact SeqAt.EqAt.none_int b t
  | str b=>obtain ⟨t,rfl⟩:=rx; exact SeqAt.EqAt.none_str b t
  | _=>exact absurd (show false = true from fx) Bool.false_ne_true
 | bl a =>
  cases ry
  cases x with
  | non=>cases rx; exact SeqAt.EqAt.bool_none a
  | bl b=>cases rx; exact SeqAt.EqAt.bool_bool a b
  | int b=>obtain ⟨t,rfl⟩:=rx; exact SeqAt.EqAt.bool_int a b t
  | str b=>obtain ⟨t,rfl⟩:=rx; exact SeqAt.EqAt.bool_str a b t
  | _=>exact absurd (show false = true from fx) Bool.false_ne_true
 | int a =>
  obtain ⟨t',rfl⟩:=ry
  cases x with
  | non=>cases rx; exact SeqAt.EqAt.int_none a t'
  | bl b=>cases rx; exact SeqAt.EqAt.int_bool a t' b
  | int b=>obtain ⟨t,rfl⟩:=rx; exact SeqAt.EqAt.int_int a t' b t
  | str b=>obtain ⟨t,rfl⟩:=rx; exact SeqAt.EqAt.int_str a t' b t
  | _=>exact absurd (show false = true from fx) Bool.false_ne_true
 | str a =>
  obtain ⟨t',rfl⟩:=ry
  cases x with
  | non=>cases rx; exact SeqAt.EqAt.str_none a t'
  | bl b=>cases rx; exact SeqAt.EqAt.str_bool a t' b
  | int b=>obtain ⟨t,rfl⟩:=rx; exact SeqAt.EqAt.str_int a t' b t
  | str b=>obtain ⟨t,rfl⟩:=rx; exact SeqAt.EqAt.str_str a t' b t
  | _=>exact absurd (show false = true from fx) Bool.false_ne_true
 | _=>exact absurd (show false = true from fy) Bool.false_ne_true
theorem call_len_seq:CallR X (.builtin "len") (fun xs H Q=>∃ p ys,xs = [.ref p]∧(SqL X.K H p ys∨SqT X.K H p ys)∧Q (.int ys.length) H):=by
 intro pins s σ H xs us Q I r h
 obtain ⟨p,ys,rfl,hq,q⟩:=h
 obtain ⟨u,rfl,rx⟩:=vals1 r
 cases rx
 have hn:=line63
 rcases hq with hq | hq
 ·obtain ⟨its,r',pl,hz⟩:=I.list hq
  have hlen:=r'.length
  exact Calls.call_len_list pl.isList (by simp only [List.size_toArray] <;> omega) ⟨.int ys.length,H,I.tok _,⟨s.toks+1,by rw [List.size_toArray,hlen]⟩,q⟩
 ·obtain ⟨its,r',pl,hz⟩:=I.tuple hq
  have hlen:=r'.length
  exact len_tuple pl (by simp only [List.size_toArray] <;> omega) ⟨.int ys.length,H,I.tok _,⟨s.toks+1,by rw [List.size_toArray,hlen]⟩,q⟩
theorem CallR.or {f:Value} {r r':List V→Hp→VK→Prop} (h:CallR X f r) (h':CallR X f r'):CallR X f (fun xs H Q=>r xs H Q∨r' xs H Q):=by
 intro pins s σ H xs us Q I rs q
 rcases q with q | q
 ·exact h pins s σ H xs us Q I rs q
 ·exact h' pins s σ H xs us Q I rs q
theorem call_list_of:CallR X (.type "list") (fun xs H Q=>∃ p ys,xs = [.ref p]∧(SqL X.K H p ys∨SqT X.K H p ys)∧∀ l,H l = none→Q (.ref l) (upd H l (.lst ys))):=by
 intro pins s σ H xs us Q I r h
 obtain ⟨p,ys,rfl,hq,q⟩:=h
 obtain ⟨u,rfl,rx⟩:=vals1 r
 cases rx
 have fin:∀ (its:List Value),Vals ys its→ys.length≤sizeLine→∀ (h':Heap) (c':Nat),(∀ b o',s.heap.get? b = some o'→h'.get? b = some o') →
   h'.get? s.heap.objs.size = some { cls:=.type "list",dict:=none,data:=.seq its.toArray c',slots:=#[] }→EP X pins σ Q (.ref s.heap.objs.size) { s with heap:=h' }:=fun its r' hz h' c' kp e =>
  ⟨.ref s.heap.objs.size,_,I.laid (t':=s.toks) kp (Nat.le_refl _) (show ObjOk X.prog X.w _ h' _ (.lst ys) from ⟨hz,its,c',r',e⟩),rfl,q _ (I.hok.fresh (Nat.le_refl _))⟩
 rcases hq with hq | hq
 ·obtain ⟨its,r',pl,hz⟩:=I.list hq
  have hlen:=r'.length
  obtain ⟨o,ho,hc,n,hd⟩:=pl.isList
  exact call_list_seq p (.inl rfl) ho hc hd (fun h' c' kp e=>fin its r' hz h' c' kp e) (by simp only [List.size_toArray] <;> omega)
 ·obtain ⟨its,r',pl,hz⟩:=I.tuple hq
  have hlen:=r'.length
  obtain ⟨o,ho,hc,n,hd⟩:=pl
  exact call_list_seq p (.inr rfl) ho hc hd (fun h' c' kp e=>fin its r' hz h' c' kp e) (by simp only [List.size_toArray] <;> omega)
def tyV (K:PySem.W.Frag) (T:String) (x:V) (H:Hp):Prop:=match x with
 | .str _=>T = "str"
 | .int _=>T = "int"
 | .ref p=>(T = "list"∧∃ xs,SqL K H p xs)∨(T = "tuple"∧∃ o,K.lookup p = some o∧o.cls = .type "tuple"∧o.dict = none) ∨
   (T = "dict"∧((∃ kvs,H p = some (.dK kvs))∨∃ kvs,H p = some (.dT kvs)))∨(T = "set"∧∃ S n,H p = some (.set S n))
 | _=>False
theorem tyV_is {pins:List (Addr×Obj)} {σ:St} {H:Hp} {s:Shared} {T:String} {x:V} {v:Value} (I:Inv X pins σ H s) (r:RelV x v) (ty:tyV X.K T x H) :
  s.TypeIs v T∧∀ a,v = .ref a→∃ ob,s.heap.get? a = some ob∧ob.dict = none:=by
 cases x with
 | str z =>
  obtain ⟨t,rfl⟩:=r
  cases (show T = "str" from ty)
  exact ⟨typeIs_str s z t,fun _ e=>nomatch e⟩
 | int i =>
  obtain ⟨t,rfl⟩:=r
  cases (show T = "int" from ty)
  exact ⟨typeIs_int s i t,fun _ e=>nomatch e⟩
 | ref p =>
  cases r
  rcases ty with ⟨rfl,xs,hq⟩ | ⟨rfl,o,hk,hc,hd⟩ | ⟨rfl,hk⟩ | ⟨rfl,S,n,hk⟩
  ·obtain ⟨its,_,pl,_⟩:=I.list hq
   refine ⟨pl.isList.typeIs,fun a e=>?_⟩
   cases e
   obtain ⟨o,n,e,c,hd,_⟩:=pl
   exact ⟨o,e,hd⟩
  ·refine ⟨⟨o,I.kIn p o hk,hc⟩,fun a e=>?_⟩
   cases e
   exact ⟨o,I.kIn _ o hk,hd⟩
  ·have z:∃ o,s.heap.get? p = some o∧o.ExactDict:=by
    rcases hk with ⟨kvs,hk⟩ | ⟨kvs,hk⟩
    ·obtain ⟨_,_,_,_,o,_,_,e,ex,_⟩:=I.hok p _ hk
     exact ⟨o,e,ex⟩
    ·obtain ⟨_,_,_,_,o,_,_,e,ex,_⟩:=I.hok p _ hk
     exact ⟨o,e,ex⟩
   obtain ⟨o,e,ex⟩:=z
   refine ⟨⟨o,e,ex.1⟩,fun a e2=>?_⟩
   cases e2
   exact ⟨o,e,ex.2.1⟩
  ·obtain ⟨o,_,_,_,e,ex,_⟩:=I.hok p _ hk
   refine ⟨⟨o,e,ex.1⟩,fun a e2=>?_⟩
   cases e2
   exact ⟨o,e,ex.2.1⟩
 | _=>exact False.elim ty
def tBM0 (K:PySem.W.Frag) (T:String) (r:V→List V→Hp→VK→Prop) (to:TE):TE:=fun σ H Q=>to σ H fun x H1=>tyV K T x H1∧r x [] H1 Q
def tBM (K:PySem.W.Frag) (T:String) (r:V→List V→Hp→VK→Prop) (to:TE) (t:TA):TE:=fun σ H Q=>to σ H fun x H1=>tyV K T x H1∧t σ H1 fun xs H2=>r x xs H2 Q
variable {o e:Expr} {es:List Expr} {to:TE} {t:TA} {name:Str} {apos cpos:Pos} {T id:String} {r:V→List V→Hp→VK→Prop}
theorem pe_bm0 (pa:PlainAttrs T) (slot:Slot T name id) (hty:typeOf (.builtin id) = pure (.type "method_descriptor")) (hm:MtR X id r) (ho:PE X o to)
  (hbase:attributeBase o name X.env (eval o X.env) = eval o X.env:=by rfl) (hline:(apos.endLine == cpos.line) = true:=by rfl):PE X (.Call (.Attribute o name apos) [] [] cpos) (tBM0 X.K T r to):=by
 intro pins s σ H Q I h
 refine wpAny_Call_method0_late hbase hline (thn (ho pins s σ H _ I h) fun v s1 ⟨x,H1,I1,r1,ty,q1⟩=>?_)
 obtain ⟨h1,h2⟩:=tyV_is I1 r1 ty
 exact ⟨T,id,pa,slot,hty,h1,h2,Calls.callWith_builtin rfl (PySem.evalArgs_none (hm pins s1 σ H1 x [] v [] Q I1 r1 .nil q1))⟩
theorem pe_bm (pa:PlainAttrs T) (slot:Slot T name id) (hty:typeOf (.builtin id) = pure (.type "method_descriptor")) (hm:MtR X id r) (ho:PE X o to) (ha:PA X (e :: es) t)
  (hbase:attributeBase o name X.env (eval o X.env) = eval o X.env:=by rfl)
  (hfew:((backTo cpos (starEach (e :: es) X.env)).all (fun x=>!x.1) && (backToKw cpos (keywordEach [] X.env)).all (fun x=>x.1.isSome)
   && decide ((e :: es).length+([]:List Keyword).length+(if ([]:List Keyword).isEmpty then 0 else 1) < 30)) = true:=by rfl)
  (hline:(apos.endLine == cpos.line) = true:=by rfl) (hs:starEach (e :: es) X.env = (false,eval e X.env) :: starEach es X.env:=by rfl) (hplain:(backTo cpos (starEach es X.env)).any (·.1) = false:=by rfl) :
  PE X (.Call (.Attribute o name apos) (e :: es) [] cpos) (tBM X.K T r to t):=by
 intro pins s σ H Q I h
 refine wpAny_Call_method_late hbase hfew hline rfl (thn (ho pins s σ H _ I h) fun v s1 ⟨x,H1,I1,r1,ty,q1⟩=>?_)
 obtain ⟨h1,h2⟩:=tyV_is I1 r1 ty
 refine ⟨T,id,pa,slot,hty,h1,h2,?_⟩
 have hA:=ha cpos pins s1 σ H1 _ I1 q1
 rw [hs] at hA ⊢
 refine Calls.callWith_builtin (by show (false || (backTo cpos (starEach es X.env)).any (·.1)) = false; rw [hplain] <;> rfl) (Calls.evalArgs_plain ?_)
 exact thn hA fun us s2 ⟨vs,H2,I2,r2,q2⟩=>hm pins s2 σ H2 x vs v us Q I2 r1 r2 q2
end
end L2
namespace L2
open PySem PySem.Spec PyProof.Rows
def MtM (X:Cx) (id:String) (r:V→List V→Hp→VK→Prop):Prop :=
 ∀ (pins:List (Addr×Obj)) (s:Shared) (σ:St) (H:Hp) (x:V) (xs:List V) (v:Value) (us:List Value) (Q:VK),Inv X pins σ H s→RelV x v→Vals xs us→r x xs H Q →
  wpAny (model X.prog X.w) X.A (call (.builtin id) (v :: us)) (EP X pins σ Q) X.xe s
theorem Vals.one:∀ {x:V} {us:List Value},Vals [x] us→∃ u,us = [u]∧RelV x u
 | _,_,.cons r .nil=>⟨_,rfl,r⟩
theorem Vals.two:∀ {x y:V} {us:List Value},Vals [x,y] us→∃ u v,us = [u,v]∧RelV x u∧RelV y v
 | _,_,_,.cons r (.cons q .nil)=>⟨_,_,rfl,r,q⟩
theorem Vals.zero:∀ {us:List Value},Vals [] us→us = []
 | _,.nil=>rfl
theorem Vals.dropLast {xs:List V} {us:List Value} (h:Vals xs us):Vals xs.dropLast us.dropLast:=by
 induction h with
 | nil=>exact .nil
 | cons r t ih =>
  cases t with
  | nil=>exact .nil
  | cons q t'=>exact .cons r ih
theorem Vals.eraseIdx:∀ {xs:List V} {us:List Value} (i:Nat),Vals xs us→Vals (xs.eraseIdx i) (us.eraseIdx i)
 | _,_,_,.nil=>.nil
 | _,_,0,.cons _ t=>t
 | _,_,i+1,.cons r t=>.cons r (Vals.eraseIdx i t)
theorem Vals.reverse {xs:List V} {us:List Value} (h:Vals xs us):Vals xs.reverse us.reverse:=by
 induction h with
 | nil=>exact .nil
 | cons r t ih=>rw [List.reverse_cons,List.reverse_cons]; exact Vals.append ih (.cons r .nil)
theorem Vals.rep {xs:List V} {us:List Value} (h:Vals xs us):∀ k:Nat,Vals (List.replicate k xs).flatten (List.replicate k us).flatten
 | 0=>.nil
 | k+1=>by
  rw [List.replicate_succ,List.replicate_succ,List.flatten_cons,List.flatten_cons]
  exact Vals.append h (Vals.rep h k)
theorem erase_last {α:Type} (l:List α):l.eraseIdx (l.length - 1) = l.dropLast:=by
 induction l with
 | nil=>rfl
 | cons a r ih =>
  cases r with
  | nil=>rfl
  | cons b r =>
   have e:(a :: b :: r).length - 1 = ((b :: r).length - 1)+1:=by
    have h1:(a :: b :: r).length = r.length+2:=rfl
    have h2:(b :: r).length = r.length+1:=rfl
    omega
   rw [e,List.eraseIdx_cons_succ,ih]
   all_goals rfl
theorem foldl_rep (its:List Value):∀ (k:Nat) (acc:List Value),
  List.foldl (fun x1 x2=>x1++x2) acc.toArray (List.replicate k its.toArray) = (acc++(List.replicate k its).flatten).toArray
 | 0,acc=>by simp
 | k+1,acc=>by
  have e:acc.toArray++its.toArray = (acc++its).toArray:=by simp
  have e2:(acc++its)++(List.replicate k its).flatten = acc++(List.replicate (k+1) its).flatten:=by
   rw [List.replicate_succ,List.flatten_cons,List.append_assoc]
  rw [← e2,← foldl_rep its k (acc++its),← e,List.replicate_succ,List.foldl_cons]
section
variable {X:Cx} {pins:List (Addr×Obj)} {σ:St} {H:Hp} {s:Shared} {l b:Addr} {xs ys zs:List V}
theorem Inv.lset {its its':List Value} {n:Nat} {f:Array Value→Array Value} {t':Nat} (I:Inv X pins σ H s) (hH:H l = some (.lst xs))
  (e:s.heap.get? l = some { cls:=.type "list",data:=.seq its.toArray n }) (hf:f its.toArray = its'.toArray) (hv:Vals ys its') (hz:ys.length≤sizeLine) :
  Inv X pins σ (upd H l (.lst ys)) { s with heap:=s.heap.update l (Obj.mapSeq f),toks:=t' }:=by
 have q:=PySem.IsL.update e f
 rw [hf] at q
 refine I.write (x:=l) (e:=l) (by rw [hH]; exact trivial) (.inl rfl) (fun b' u hb hu=>(Heap.get?_update_other s.heap (Obj.mapSeq f) (Ne.symm hb)).trans hu) ⟨_,q⟩ ?_
 exact ⟨hz,its',_,hv,q⟩
theorem Inv.lnew {its:List Value} {t':Nat} (I:Inv X pins σ H s) (hv:Vals ys its) (hz:ys.length≤sizeLine) :
  Inv X pins σ (upd H s.heap.objs.size (.lst ys)) { s with heap:=s.heap.push { cls:=.type "list",data:=.seq its.toArray },toks:=t' } :=
 I.laid (fun _ _ q=>Heap.get?_push_of_some _ q) (Nat.le_refl _) ⟨hz,its,0,hv,Heap.get?_push_size _ rfl⟩
theorem Inv.fresh (I:Inv X pins σ H s):H s.heap.objs.size = none:=I.hok.fresh (Nat.le_refl _)
theorem Inv.lstM (I:Inv X pins σ H s) (hH:H l = some (.lst xs)):xs.length≤sizeLine∧∃ (its:List Value) (n:Nat),Vals xs its∧xs.length = its.length∧s.heap.get? l = some { cls:=.type "list",data:=.seq its.toArray n }:=by
 obtain ⟨z,its,n,r,e⟩:=I.hok l _ hH
 exact ⟨z,its,n,r,r.length,e⟩
theorem notLongL {n:Nat} (h:n≤sizeLine):Builtin.List.listTooLong n = false:=by
 unfold Builtin.List.listTooLong
 exact decide_eq_false (by omega)
end
section
variable {X:Cx}
def rAppend:V→List V→Hp→VK→Prop:=fun x vs H Q=>∃ l xs y,x = .ref l∧vs = [y]∧H l = some (.lst xs)∧xs.length < sizeLine∧Q .non (upd H l (.lst (xs++[y])))
theorem mt_append:MtM X "list.append" rAppend:=by
 intro pins s σ H x vs v us Q I rx rv h
 obtain ⟨l,xs,y,rfl,rfl,hH,hz,q⟩:=h
 cases rx
 obtain ⟨u,rfl,ru⟩:=rv.one
 obtain ⟨z,its,n,r,hl,e⟩:=I.lstM hH
 refine call_meets F.slot_list_append ⟨_,e,rfl⟩ F.entry_list_append (F.args_list_append_2 _ _) (PySem.list_append l its.toArray n u (by rw [List.size_toArray]; omega)) ⟨e,?_⟩
 refine ⟨.non,_,I.lset (its':=its++[u]) hH e (by simp) (r.append (.cons ru .nil)) ?_,rfl,q⟩
 rw [List.length_append,List.length_singleton]
 omega
def rExtend:V→List V→Hp→VK→Prop:=fun x vs H Q=>∃ l b xs zs,x = .ref l∧vs = [.ref b]∧H l = some (.lst xs)∧H b = some (.lst zs)∧xs.length+zs.length≤sizeLine∧Q .non (upd H l (.lst (xs++zs)))
theorem mt_extend:MtM X "list.extend" rExtend:=by
 intro pins s σ H x vs v us Q I rx rv h
 obtain ⟨l,b,xs,zs,rfl,rfl,hH,hB,hz,q⟩:=h
 cases rx
 obtain ⟨u,rfl,ru⟩:=rv.one
 cases ru
 obtain ⟨z,its,n,r,hl,e⟩:=I.lstM hH
 obtain ⟨z2,its2,n2,r2,hl2,e2⟩:=I.lstM hB
 have hsz:its.toArray.size+its2.toArray.size≤sizeLine:=by rw [List.size_toArray,List.size_toArray]; omega
 have hlong:¬ (!its.toArray.isEmpty && Builtin.List.listTooLong (its.toArray.size+its2.toArray.size)) = true:=by
  rw [notLongL hsz,Bool.and_false]
  exact Bool.false_ne_true
 refine call_meets F.slot_list_extend ⟨_,e,rfl⟩ F.entry_list_extend (F.args_list_extend_2 _ _)
  (AutoSeq1.list_extend_list_list_0 l its.toArray n b its2.toArray n2 hlong (by rw [List.size_toArray]; omega) (by omega)) ⟨e,e2,?_⟩
 refine ⟨.non,_,I.lset (its':=its++its2) hH e (by simp) (r.append r2) ?_,rfl,q⟩
 rw [List.length_append]
 omega
def rPop:V→List V→Hp→VK→Prop:=fun x vs H Q=>∃ l xs y,x = .ref l∧vs = []∧H l = some (.lst xs)∧xs[xs.length - 1]? = some y∧Q y (upd H l (.lst xs.dropLast))
theorem mt_pop:MtM X "list.pop" rPop:=by
 intro pins s σ H x vs v us Q I rx rv h
 obtain ⟨l,xs,y,rfl,rfl,hH,hy,q⟩:=h
 cases rx
 have hus:=rv.zero
 subst hus
 obtain ⟨z,its,n,r,hl,e⟩:=I.lstM hH
 obtain ⟨u,hu,ru⟩:=r.get hy
 have hy':its.toArray[its.toArray.size - 1]? = some u:=by
  show its.toArray[its.length - 1]? = some u
  rw [← Array.getElem?_toList,← hl]
  exact hu
 refine call_meets F.slot_list_pop ⟨_,e,rfl⟩ F.entry_list_pop (F.args_list_pop_1 _) (MeetsSeq.list_pop_last l its.toArray n u hy' (by rw [List.size_toArray]; omega)) ⟨e,?_⟩
 refine ⟨y,_,I.lset (its':=its.dropLast) hH e ?_ r.dropLast ?_,ru,q⟩
 ·show its.toArray.eraseIdxIfInBounds (its.toArray.size - 1) = its.dropLast.toArray
  rw [List.size_toArray,List.eraseIdxIfInBounds_toArray,erase_last]
 ·rw [List.length_dropLast]
  omega
def rCat:R2:=fun x y H Q=>∃ l b xs zs,x = .ref l∧y = .ref b∧H l = some (.lst xs)∧H b = some (.lst zs)∧xs.length+zs.length≤sizeLine∧∀ p,H p = none→Q (.ref p) (upd H p (.lst (xs++zs)))
theorem op_cat:OpR X (binaryOp .Add) rCat:=by
 intro pins s σ H x y v u Q I rx ry h
 obtain ⟨l,b,xs,zs,rfl,rfl,hH,hB,hz,q⟩:=h
 cases rx
 cases ry
 obtain ⟨z,its,n,r,hl,e⟩:=I.lstM hH
 obtain ⟨z2,its2,n2,r2,hl2,e2⟩:=I.lstM hB
 refine PySem.P.add_list e e2 ?_ (by rw [List.size_toArray,List.size_toArray]; omega)
 have ea:its.toArray++its2.toArray = (its++its2).toArray:=by simp
 rw [ea]
 exact ⟨.ref _,_,I.lnew (t':=s.toks) (r.append r2) (by rw [List.length_append]; omega),rfl,q _ I.fresh⟩
def rRep:R2:=fun x y H Q=>∃ l k xs,x = .ref l∧y = .int k∧H l = some (.lst xs)∧-(2 ^ 63)≤k∧k < 2 ^ 63∧xs.length * k.toNat≤sizeLine ∧
 ∀ p,H p = none→Q (.ref p) (upd H p (.lst (List.replicate k.toNat xs).flatten))
theorem len_rep {α:Type} (xs:List α) (k:Nat):(List.replicate k xs).flatten.length = k * xs.length:=by
 induction k with
 | zero=>simp
 | succ k ih=>rw [List.replicate_succ,List.flatten_cons,List.length_append,ih,Nat.succ_mul,Nat.add_comm]
theorem op_rep:OpR X (binaryOp .Mult) rRep:=by
 intro pins s σ H x y v u Q I rx ry h
 obtain ⟨l,k,xs,rfl,rfl,hH,h1,h2,hz,q⟩:=h
 cases rx
 obtain ⟨t,rfl⟩:=ry
 obtain ⟨z,its,n,r,hl,e⟩:=I.lstM hH
 have hlen:its.toArray.size * k.toNat≤sizeLine:=by rw [List.size_toArray,← hl]; exact hz
 have hcap:¬ its.toArray.size * k.toNat > (2 ^ 63 - 1) / 8:=by
  have:(sizeLine:Nat)≤(2 ^ 63 - 1) / 8:=by decide
  omega
 have hfit:¬ (!Builtin.List.listFitsIndex k) = true:=by
  rw [fitsIndex_both h1 h2]
  exact Bool.false_ne_true
 have hlong:¬ Builtin.List.listTooLong (its.toArray.size * k.toNat) = true:=by
  rw [notLongL hlen]
  exact Bool.false_ne_true
 have hnew:List.foldl (fun x1 x2=>x1++x2) #[] (List.replicate (if its.toArray.isEmpty = true then 0 else k.toNat) its.toArray) = (List.replicate k.toNat its).flatten.toArray:=by
  have f0:∀ m:Nat,List.foldl (fun x1 x2=>x1++x2) #[] (List.replicate m its.toArray) = (List.replicate m its).flatten.toArray:=fun m=>by
   have:=foldl_rep its m []
   rw [List.nil_append] at this
   exact this
  rw [f0]
  cases its with
  | nil=>simp
  | cons a r'=>rw [if_neg (by simp)]
 refine wpAny_binaryOp_repeat_ref (T:="list") (U:="int") (by decide) ⟨_,e,rfl⟩ (fun s'=>typeIs_int s' k t) noFill_list_mul F.fills_int_mul F.slot_int_rmul repeat_list F.slot_int_index.lookup
  (call_meets F.slot_int_rmul (typeIs_int s k t) F.entry_int_rmul (F.args_int_rmul_2 _ _) (int___rmul___int_list k t l its.toArray n)
   ⟨e,rfl,⟨_,e,rfl⟩,call_meets F.slot_list_mul ⟨_,e,rfl⟩ F.entry_list_mul (F.args_list_mul_2 _ _) (AutoListH.list___mul___list_int_3 l its.toArray n k t hfit hcap hlong) ⟨e,?_⟩⟩)
 rw [hnew]
 exact ⟨.ref _,_,I.lnew (t':=s.toks) (r.rep k.toNat) (by rw [len_rep,Nat.mul_comm]; exact hz),rfl,q _ I.fresh⟩
end
section
variable {prog:Program} {w:World} {A:Around} {E:Value→Shared→Prop} {s:Shared}
end
section
variable {X:Cx}
end
end L2
namespace Att
open PySem PySem.W PySem.Calls PyProof.Rows
theorem ints_of_wellAll {P:Params} {h:Heap}:∀ (ns:List Int) (vs:List Value),WellAll P h vs (ns.map WData.int)→IntsAre vs ns:=by
 intro ns
 induction ns with
 | nil =>
  intro vs w
  rw [List.map_nil] at w
  cases w
  exact .nil
 | cons n ns ih =>
  intro vs w
  rw [List.map_cons] at w
  cases w with
  | cons a b =>
   cases a
   exact .cons _ _ (ih _ b)
theorem script_of {l:OpenLaw} {n:Nat} (hn:l.most = some n) {P:Params} {h:Heap} {args:List WData} {vals:List Value}
  (hpre:l.row.toRowW.claim.pre args = true) (hwl:WellAll P h vals args) :
  ∃ a vs ns,vals = [Value.ref a]∧args = [WData.list (ns.map WData.int)]∧h.get? a = some { cls:=.type "list",data:=.seq vs.toArray }∧IntsAre vs ns∧ns.length≤n:=by
 have hsh:WShape.hasAll [] args [.list .int] = true:=(pre_splitW hpre).1
 have hc:l.pre.holds [] { args:=args } = true:=(pre_splitW hpre).2
 obtain ⟨d,r,rfl,h1,h2⟩:=hasAllW_cons hsh
 obtain rfl:=hasAllW_nil h2
 obtain ⟨xs,rfl,h3⟩:=hasW_list h1
 obtain ⟨ns,rfl⟩:=items_int h3
 have hlen:ns.length≤n:=by
  unfold OpenLaw.pre at hc
  have h4:(WTm.not (.lt (.lit (.int (n:Int))) (.len (.arg 0)))).holds [] { args:=[.list (ns.map .int)] } = true:=by
   have h4:=(holds_andW hc).1
   rw [hn] at h4
   exact h4
  have h5:=condW_of h4 (w_not (w_lt w_lit (w_len_list (w_arg rfl))))
  rw [List.length_map] at h5
  refine Nat.le_of_not_lt fun q=>?_
  have q':(n:Int) < ((ns.length:Nat):Int):=by omega
  first
   | (rw [decide_eq_true q'] at h5; exact absurd h5 (by decide))
   | (simp at h5; omega)
 cases hwl with
 | cons w1 w2 =>
  cases w2
  cases w1 with
  | list ho hall=>exact ⟨_,_,ns,rfl,rfl,ho,ints_of_wellAll ns _ hall,hlen⟩
theorem post_true (l:OpenLaw) (args:List WData):l.row.toRowW.claim.post args (.bool true) args = true :=
 postW_of (r:=l.row.toRowW) (X:=(true == true))
  (show WShape.has [] (.bool true) .bool = true by first | rfl | decide | simp [WShape.has,WShape.arms,WShape.armsAll])
  (show (WTm.eq .res (.lit (.bool true))).value [] { args:=args,res:=some (.bool true),after:=args } = some (.bool (true == true)) from w_eq_bool (w_res rfl) w_lit) rfl
theorem attach_call {l:OpenLaw} {n:Nat} {q:Program} {loose:List Str} {XP:(Str→Option Value)→Heap→Prop} {YP:World→Heap→Prop} {d:DefRec}
  (hn:l.most = some n) (hdf:d.params.defaults = [])
  (call:∀ (w:World) (s₀ s₁:Shared) (mg mb:Str→Option Value) (fa:Addr) (o:Obj) (pm cd doc:Value) (a:Addr) (vs:List Value) (ns:List Int),
   Ground q loose [] XP w s₀ mg mb s₁.heap→YP w s₁.heap →
   s₁.heap.get? fa = some o→o.data = .func (docDef d.name d.params d.body d.scope pm cd doc)→s₁.heap.CodeRec cd d.name→mg d.name = some (.ref fa) →
   s₁.heap.get? a = some { cls:=.type "list",data:=.seq vs.toArray }→IntsAre vs ns→ns.length≤n→s₁.gens = #[] →
   codeAny (model l.prog w) callerA (.call (.ref fa) ⟨[.ref a],[]⟩) (fun r s'=>r = .ok (.ret (.bool true))∧OldK s₁.heap s'.heap∧s'.os = s₁.os∧AllBare s'.gens) s₁) :
  WalkO q loose XP YP l.row.toRowW d [] (fun f vs=>PySem.call f vs):=by
 intro w s₀ s₁ mg mb G Y fa o pm cd doc dV kV ho hd hcd hD hmg hg args vals as hpre hlay hrd hwl hlo
 obtain rfl:dV = .none:=Dflts.none hD hdf
 obtain rfl:kV = .none:=Dflts.noKw hD
 obtain ⟨a,vs,ns,rfl,rfl,hobj,hints,hlen⟩:=script_of hn hpre hwl
 refine enter_call (codeAny_mono (call w s₀ s₁ mg mb fa o pm cd doc a vs ns G Y ho (fd_plain hd) hcd hmg hobj hints hlen hg) fun r s' hq=>?_)
 obtain ⟨rfl,h2,h3,h4⟩:=hq
 exact ⟨.inl ⟨.bool true,.bool true,[],rfl,fun _=>rfl,.bool true,post_true l _,fun _=>⟨List.Pairwise.nil,fun _ hm=>(nomatch hm)⟩⟩,h2,h3,h4⟩
section
variable {prog:Program} {w:World} {A:Around} {E:Value→Shared→Prop} {s:Shared} {K:Frag}
end
end Att
namespace L2
open PySem PySem.Spec PyProof.Rows
theorem vals_ints:∀ {vs:List Value} {ns:List Int},IntsAre vs ns→Vals (ns.map V.int) vs
 | _,_,.nil=>.nil
 | _,_,.cons n t h=>.cons ⟨t,rfl⟩ (vals_ints h)
def Only (H:Hp):Prop:=∀ b,H b = none∨∃ o xs,H b = some (.frz o (.lst xs))
theorem law_call {P:Program} {w:World} {K:PySem.W.Frag} {mg mb:Str→Option Value} {CX:CXT} {k:Nat} {fa a:Addr} {fd:FuncData} {x:Str} {sp:Sp} {s₁:Shared} {vs:List Value} {ns:List Int}
  (KX:K.In s₁.heap) (hns:s₁.heap.Ns mainGlobals mg) (hb:s₁.heap.Ns builtinsNs mb) (hbb:∀ x:Str,x ≠ "__name__"→mb x = bootBuiltins x) (hlim:s₁.heap.NoLimit) (hg:s₁.gens = #[])
  (ha:s₁.heap.get? a = some { cls:=.type "list",data:=.seq vs.toArray }) (hi:IntsAre vs ns) (hl:ns.length≤sizeLine) (hr:Room k callerA)
  (F:∀ base:Heap,K.In base→base.Ns mainGlobals mg→FnOk P w K mg base CX k fa fd [x] sp) (hbind:∀ (s:Shared) (u:Value),BindsTo s fd ⟨[u],[]⟩ [(x,u)])
  (hsp:∀ H:Hp,Only H→SqL K H a (ns.map V.int)→sp [.ref a] H (fun v _=>v = .bl true) fun _ _ _=>False)
  (hCX:∀ H e s',CX [] H s₁ (fun _ _ _=>False) e s'→False) :
  codeAny (model P w) callerA (.call (.ref fa) ⟨[.ref a],[]⟩) (fun r s'=>r = .ok (.ret (.bool true))∧OldK s₁.heap s'.heap∧s'.os = s₁.os∧AllBare s'.gens) s₁:=by
 have rv:=vals_ints hi
 have lenV:=hi.length
 have core:∀ H:Hp,Only H→SqL K H a (ns.map V.int)→HOk P w H s₁.heap→(∀ b,H b ≠ none→b = a)→(H a ≠ none→K.lookup a = none) →
   codeAny (model P w) callerA (.call (.ref fa) ⟨[.ref a],[]⟩) (fun r s'=>r = .ok (.ret (.bool true))∧OldK s₁.heap s'.heap∧s'.os = s₁.os∧AllBare s'.gens) s₁:=by
  intro H hO hS hok hA hK
  have base_of:∀ {b:Addr} {o:Obj},s₁.heap.get? b = some o→H b = none→(hidT s₁.heap H).get? b = some o:=fun e n=>hidT_get e n
  have noA:∀ {b:Addr} {o:Obj} {es:Array DictEntry} {ep:Nat},s₁.heap.get? b = some o→o.data = .dict es ep→H b = none:=fun {b o es ep} e d=>by
   cases q:H b with
   | none=>rfl
   | some u =>
    have e':b = a:=hA b (by rw [q]; simp)
    subst e'
    rw [ha] at e; cases e
    have d':Data.seq vs.toArray _ = Data.dict es ep:=d
    cases d'
  have nsK:∀ {b:Addr} {m:Str→Option Value},s₁.heap.Ns b m→(hidT s₁.heap H).Ns b m:=fun {b m} ⟨o,es,ep,e,d,r⟩=>⟨o,es,ep,base_of e (noA e d),d,r⟩
  have hKb:K.In (hidT s₁.heap H):=fun b o e=>base_of (KX b o e) (by
   cases q:H b with
   | none=>rfl
   | some u =>
    have e':b = a:=hA b (by rw [q]; simp)
    subst e'
    rw [hK (by rw [q]; simp)] at e; cases e)
  have hM:Mod K mg (hidT s₁.heap H):=⟨hKb,nsK hns,⟨mb,nsK hb,hbb⟩,let ⟨mc,h1,h2⟩:=hlim; ⟨mc,nsK h1,h2⟩⟩
  have e0:Env0 P w K mg (hidT s₁.heap H) callerA [] s₁ H:=⟨rfl,hM,fun b o e=>of_hidT e,Nat.le_of_eq (hidT_size _ _),trivial,fun b hb=>absurd (show b ∈ ([]:List Addr) from hb) (by simp),hok,.of_eq hg⟩
  refine codeAny_mono ((F _ hKb (nsK hns)).run callerA [] s₁ H ⟨[.ref a],[]⟩ [.ref a] [.ref a] _ _ hr e0 (hbind s₁ (.ref a)) (.cons rfl .nil) (hsp H hO hS)) fun r s' h=>?_
  cases r with
  | error e=>exact (hCX H e s' h).elim
  | ok fl =>
   cases fl with
   | next=>exact False.elim h
   | brk=>exact False.elim h
   | cont=>exact False.elim h
   | ret u =>
    obtain ⟨v,H',os,bare,un,hok',r',q⟩:=h
    have q':v = .bl true:=q
    subst q'
    obtain rfl:u = Value.bool true:=r'
    refine ⟨rfl,OldK.of_keep fun b o e=>?_,os,bare⟩
    cases q:H b with
    | none=>exact un.keep b o e q (by intro z; exact absurd (show b ∈ ([]:List Addr) from z) (by simp)) (by simp)
    | some u =>
     rcases hO b with z | ⟨ob,xs,z⟩
     ·rw [q] at z; cases z
     ·have z2:=un.frzs b ob _ z
      obtain ⟨e1,_⟩:=hok b _ z
      obtain ⟨e2,_⟩:=hok' b _ z2
      rw [e] at e1; cases e1
      exact e2
 cases hk:K.lookup a with
 | some o =>
  have e:=KX a o hk
  rw [ha] at e
  cases e
  refine core (fun _=>none) (fun _=>.inl rfl) (.inr ⟨_,vs.toArray,_,hk,rfl,rfl,rfl,by rw [List.size_toArray,lenV]; exact hl,by simpa using rv⟩) (fun b u z=>by have z':(none:Option HO) = some u:=z; cases z') (fun b z=>absurd rfl z) fun z=>absurd rfl z
 | none =>
  refine core (fun b=>if b = a then some (.frz { cls:=.type "list",data:=.seq vs.toArray } (.lst (ns.map V.int))) else none) (fun b=>?_) (.inl (.inr ⟨{ cls:=.type "list",data:=.seq vs.toArray },if_pos rfl⟩)) (fun b u z=>?_) (fun b z=>?_) fun _=>hk
  ·by_cases hb:b = a
   ·exact .inr ⟨_,_,if_pos hb⟩
   ·exact .inl (if_neg hb)
  ·by_cases hb:b = a
   ·have z':=(if_pos hb).symm.trans z
    cases z'
    subst hb
    exact ⟨ha,by rw [List.length_map]; exact hl,vs,_,rv,ha⟩
   ·have z':=(if_neg hb).symm.trans z
    cases z'
  ·by_cases hb:b = a
   ·exact hb
   ·exact absurd (if_neg hb) z
end L2
namespace L2
open PySem PySem.Spec PyProof.Rows
theorem walk_of {l:PySem.W.OpenLaw} {n k:Nat} {q:Program} {loose:List Str} {XP:(Str→Option Value)→Heap→Prop} {YP:World→Heap→Prop} {d:DefRec} {K:Params→PySem.W.Frag} {CX:World→CXT} {sp:World→Sp} {x:Str}
  (hn:l.most = some n) (hn2:n≤sizeLine) (hdf:d.params.defaults = []) (hr:Room k callerA)
  (hY:∀ (w:World) (h:Heap),YP w h→(K w.params).In h)
  (F:∀ (w:World) (mg:Str→Option Value) (fa:Addr) (h:Heap),(K w.params).In h→h.Ns mainGlobals mg→mg d.name = some (.ref fa) →
   ∃ fd:FuncData,(∀ (s:Shared) (u:Value),BindsTo s fd ⟨[u],[]⟩ [(x,u)]) ∧
    ∀ base:Heap,(K w.params).In base→base.Ns mainGlobals mg→FnOk l.prog w (K w.params) mg base (CX w) k fa fd [x] (sp w))
  (hsp:∀ (w:World) (H:Hp) (a:Addr) (ns:List Int),ns.length≤n→Only H→SqL (K w.params) H a (ns.map V.int)→sp w [.ref a] H (fun v _=>v = .bl true) fun _ _ _=>False)
  (hCX:∀ (w:World) (H:Hp) (s:Shared) (e:Value) (s':Shared),CX w [] H s (fun _ _ _=>False) e s'→False) :
  PySem.W.WalkO q loose XP YP l.row.toRowW d [] (fun f vs=>PySem.call f vs):=by
 refine Att.attach_call hn hdf fun w s₀ s₁ mg mb fa o pm cd doc a vs ns G Y ho hd hcd hmg hobj hints hlen hg=>?_
 have KX:=hY w _ Y
 obtain ⟨fd,hb,hF⟩:=F w mg fa _ KX G.T.g hmg
 exact law_call KX G.T.g G.T.b G.T.builtins G.T.nolimit hg hobj hints (Nat.le_trans hlen hn2) hr hF hb (fun H hO hS=>hsp w H a ns hlen hO hS) fun H e s'=>hCX w H s₁ e s'
end L2
namespace L2
open PySem PySem.Spec PyProof.Rows
def defArgs (s:Stmt):Arguments:=match s with
 | .FunctionDef _ a _ _ _ _ _ _ _ _=>a
 | _=>{ posonlyargs:=[],args:=[],vararg:=none,kwonlyargs:=[],kw_defaults:=[],kwarg:=none,defaults:=[] }
def defBody (s:Stmt):List Stmt:=match s with
 | .FunctionDef _ _ b _ _ _ _ _ _ _=>b
 | _=>[]
def defScope (s:Stmt):Scope:=match s with
 | .FunctionDef _ _ _ _ _ _ sc _ _ _=>sc
 | _=>{ kind:=.function,names:=[],isGenerator:=false,isCoroutine:=false }
abbrev CX0:CXT:=fun _ _ _ _ _ _=>False
abbrev E0:XK:=fun _ _ _=>False
theorem pass0 {X:Cx}:Passes CX0 X E0:=fun _ _ _ _ _ _ _ h=>h.elim
structure Fun (K:PySem.W.Frag) (x qual:Str) (st:Stmt) (f:Addr) (fd:FuncData):Prop where
 ex:∃ (oc:Value) (od:Option Addr) (kV doc pm:Value) (an:Option Addr) (cdv ct:Value) (osl:Array (Option Value)),
  fd = PySem.W.fnOf x qual (defArgs st) (defBody st) (defScope st) .none kV doc pm an cdv ct∧K.lookup f = some ⟨oc,od,.func fd,osl⟩∧PySem.W.codeIn K cdv qual = true
 kp:PySem.W.keepIn K (.ref f) = true
section
variable {P:Program} {w:World} {K:PySem.W.Frag} {mg:Str→Option Value} {base:Heap}
theorem Fun.ok {x qual:Str} {st:Stmt} {f:Addr} {fd:FuncData} {N ps:List Str} {k:Nat} {sp:Sp} (F:Fun K x qual st f fd) (S:FnScope N ps (defScope st)) (len:∀ vs H Q E,sp vs H Q E→vs.length = ps.length)
  (hbody:∀ (cdv:Value) (A:Around) (outer:List Env) (s:Shared) (H:Hp) (vs:List V) (Q:VK) (E:XK),Room k (A.deeper (envOfC qual (defScope st) s.heap.objs.size f cdv))→sp vs H Q E →
   ∃ t,PSs (cxOf CX0 P w K mg base N qual (defScope st) f cdv A outer s H E).nox (defBody st) t∧t { nx:=fun _ H'=>Q .non H',rt:=Q } (start N vs) H):FnOk P w K mg base CX0 (k+1) f fd ps sp:=by
 obtain ⟨oc,od,kV,doc,pm,an,cdv,ct,osl,rfl,lk,hcd⟩:=F.ex
 refine fn_of lk hcd S len fun A outer s H vs Q E hr hsp=>?_
 obtain ⟨t,h,q⟩:=hbody cdv A outer s H vs Q E hr hsp
 exact ⟨t,h.nox,q⟩
theorem Fun.binds {x qual:Str} {st:Stmt} {f:Addr} {fd:FuncData} {ps:List Str} (F:Fun K x qual st f fd)
  (h:∀ (kV doc pm:Value) (an:Option Addr) (cdv ct:Value) (us:List Value),us.length = ps.length→bindArgs (PySem.W.fnOf x qual (defArgs st) (defBody st) (defScope st) .none kV doc pm an cdv ct) ⟨us,[]⟩ = pure (ps.zip us)):Binds K fd ps []:=by
 obtain ⟨oc,od,kV,doc,pm,an,cdv,ct,osl,rfl,lk,hcd⟩:=F.ex
 exact .all (h kV doc pm an cdv ct)
theorem fun_mk {x qual:Str} {st:Stmt} {f:Addr} {oc:Value} {od an:Option Addr} {osl:Array (Option Value)} {kV doc pm cdv ct:Value} (l:K.lookup f = some ⟨oc,od,.func (PySem.W.fnOf x qual (defArgs st) (defBody st) (defScope st) .none kV doc pm an cdv ct),osl⟩)
  (c:PySem.W.codeIn K cdv qual = true) (k:PySem.W.keepIn K (.ref f) = true):Fun K x qual st f (PySem.W.fnOf x qual (defArgs st) (defBody st) (defScope st) .none kV doc pm an cdv ct):=⟨⟨oc,od,kV,doc,pm,an,cdv,ct,osl,rfl,l,c⟩,k⟩
end
theorem hu_of {A:Around} {k:Nat} (hr:Room k A):A.units+1 < cLine:=Nat.lt_of_le_of_lt (Nat.add_le_add_left (by decide:1≤64) _) hr.units
theorem small1000 {n:Nat} (h:n≤1000):n < sizeLine:=Nat.lt_of_le_of_lt h (by decide)
section
variable {X:Cx}
theorem pv (i:Nat) {x:Str} {pos:Pos} (hN:X.N[i]? = some x:=by rfl) (hv:Vis X.env.scope x:=by first | exact Or.inl rfl | exact Or.inr (Or.inl rfl) | exact Or.inr (Or.inr rfl)) (hd:(x == ("__debug__":Str)) = false:=by decide)
  (hcd:(x == ("__classdict__":Str)) = false:=by decide):PE X (.Name x pos) (tVar i):=pe_var hN hv hd hcd
end
theorem iteF {A B:Prop} (h:B):if false = true then A else B:=by
 rw [if_neg Bool.false_ne_true]
 exact h
theorem iteT {A B:Prop} (h:A):if true = true then A else B:=by
 rw [if_pos rfl]
 exact h
theorem ite2 {c A B:Prop} [Decidable c] (h1:c→A) (h2:¬ c→B):if c then A else B:=by
 by_cases h:c
 ·rw [if_pos h]
  exact h1 h
 ·rw [if_neg h]
  exact h2 h
def Same (H H':Hp):Prop:=∀ b o,H b = some o→H' b = some o
theorem Same.refl (H:Hp):Same H H:=fun _ _ h=>h
theorem Same.trans {H H1 H2:Hp} (a:Same H H1) (b:Same H1 H2):Same H H2:=fun c o h=>b c o (a c o h)
theorem Same.free {H H':Hp} (e:Same H H') {l:Addr} (h:H' l = Option.none):H l = Option.none:=by
 cases q:H l with
 | none=>rfl
 | some o =>
  rw [e l o q] at h
  cases h
theorem Same.seq {K:PySem.W.Frag} {H H':Hp} {a:Addr} {xs:List V} (e:Same H H') (h:SqL K H a xs):SqL K H' a xs:=by
 rcases h with (h | ⟨o,h⟩) | h
 ·exact .inl (.inl (e _ _ h))
 ·exact .inl (.inr ⟨o,e _ _ h⟩)
 ·exact .inr h
end L2
namespace Geo
abbrev Pt:=Int×Int
def turn (a b c:Pt):Int:=(b.1 - a.1) * (c.2 - a.2) - (b.2 - a.2) * (c.1 - a.1)
def lin (f p:Pt):Int:=f.1 * p.1+f.2 * p.2
theorem turn_cyc (a b c:Pt):turn a b c = turn b c a:=by unfold turn; grind
theorem turn_swap (a b c:Pt):turn a b c = - turn b a c:=by unfold turn; grind
theorem turn_same (a b:Pt):turn a b a = 0:=by unfold turn; grind
theorem turn_same' (a b:Pt):turn a b b = 0:=by unfold turn; grind
theorem turn_aa (a b:Pt):turn a a b = 0:=by unfold turn; grind
theorem plu (f a b c d:Pt):(lin f b - lin f a) * turn a c d+(lin f c - lin f a) * turn a d b+(lin f d - lin f a) * turn a b c = 0:=by
 unfold turn lin; grind
theorem pos_of_mul {x y:Int} (hx:0 < x) (h:0 < x * y):0 < y:=by
 rcases Int.lt_trichotomy y 0 with h1 | h1 | h1
 ·have:=Int.mul_neg_of_pos_of_neg hx h1; omega
 ·subst h1; simp at h
 ·exact h1
theorem nonneg_of_mul {x y:Int} (hx:0 < x) (h:0≤x * y):0≤y:=by
 rcases Int.lt_or_le y 0 with h1 | h1
 ·have:=Int.mul_neg_of_pos_of_neg hx h1; omega
 ·exact h1
theorem far_turn {f a b c d:Pt} (h1:lin f a < lin f b) (h2:lin f b < lin f c) (h3:lin f c < lin f d) (k1:0 < turn a b c) (k2:0 < turn b c d):0 < turn a b d:=by
 have e:=plu f b a c d
 rw [← turn_cyc a b d] at e
 have e1:turn b a c = - turn a b c:=turn_swap _ _ _
 rw [e1] at e
 have p1:0 < (lin f b - lin f a) * turn b c d:=Int.mul_pos (by omega) k2
 have p2:0 < (lin f d - lin f b) * turn a b c:=Int.mul_pos (by omega) k1
 have p3:0 < (lin f c - lin f b) * turn a b d:=by grind
 exact pos_of_mul (by omega) p3
theorem back_turn {f a b c d:Pt} (h1:lin f a < lin f b) (h2:lin f b < lin f c) (h3:lin f c < lin f d) (k1:0 < turn a b c) (k2:0 < turn b c d):0 < turn c d a:=by
 have e:=plu f c a b d
 have p1:0 < (lin f c - lin f a) * turn b c d:=Int.mul_pos (by omega) k2
 have p2:0 < (lin f d - lin f c) * turn a b c:=Int.mul_pos (by omega) k1
 have e1:turn c b d = - turn b c d:=turn_swap _ _ _
 have e2:turn c a b = turn a b c:=by rw [turn_cyc c a b]
 rw [e1,e2] at e
 have p3:0 < (lin f c - lin f b) * turn c d a:=by grind
 exact pos_of_mul (by omega) p3
def Adj (l:List Pt) (a b:Pt):Prop:=∃ pre post,l = pre++a :: b :: post
theorem Adj.cons {l:List Pt} {a b x:Pt} (h:Adj l a b):Adj (x :: l) a b:=by
 obtain ⟨pre,post,rfl⟩:=h; exact ⟨x :: pre,post,rfl⟩
theorem Adj.cons_cases {l:List Pt} {a b x:Pt} (h:Adj (x :: l) a b):(a = x∧l.head? = some b)∨Adj l a b:=by
 obtain ⟨pre,post,e⟩:=h
 cases pre with
 | nil=>simp at e; obtain ⟨rfl,rfl⟩:=e; exact .inl ⟨rfl,rfl⟩
 | cons y pre=>simp at e; obtain ⟨rfl,rfl⟩:=e; exact .inr ⟨pre,post,rfl⟩
theorem Adj.mem {l:List Pt} {a b:Pt} (h:Adj l a b):a ∈ l∧b ∈ l:=by
 obtain ⟨pre,post,rfl⟩:=h; simp
def popB (p:Pt):List Pt→List Pt
 | b :: a :: r=>if turn a b p≤0 then popB p (a :: r) else b :: a :: r
 | s=>s
def sideRev:List Pt→List Pt→List Pt
 | st,[]=>st
 | st,p :: r=>sideRev (p :: popB p st) r
def sideOf (ps:List Pt):List Pt:=(sideRev [] ps).reverse
theorem popB_suffix (p:Pt):∀ st,popB p st <:+ st
 | []=>by simp [popB]
 | [a]=>by simp [popB]
 | b :: a :: r=>by
  unfold popB
  split
  ·exact (popB_suffix p (a :: r)).trans (List.suffix_cons _ _)
  ·exact List.suffix_refl _
theorem popB_ne (p:Pt):∀ st,st ≠ []→popB p st ≠ []
 | [],h=>absurd rfl h
 | [a],_=>by simp [popB]
 | b :: a :: r,_=>by
  unfold popB
  split
  ·exact popB_ne p (a :: r) (by simp)
  ·simp
structure Stk (f:Pt) (st dn:List Pt):Prop where
 dec:st.Pairwise (fun x y=>lin f y < lin f x)
 cvx:∀ c b a pre post,st = pre++c :: b :: a :: post→0 < turn a b c
 edge:∀ b a,Adj st b a→∀ q ∈ dn,0≤turn a b q
 sub:∀ x ∈ st,x ∈ dn
 bot:∀ q ∈ dn,∀ x,st.getLast? = some x→lin f x≤lin f q
 ne:dn ≠ []→st ≠ []
 top:∀ q ∈ dn,∀ x,st.head? = some x→q = x∨lin f q < lin f x
def Tan (f p:Pt) (st dn:List Pt):Prop:=∀ t,st.head? = some t→∀ q ∈ dn,lin f t≤lin f q→0≤turn t p q
theorem suffix_getLast {l m:List Pt} (h:l <:+ m) (hn:l ≠ []):l.getLast? = m.getLast?:=by
 obtain ⟨t,rfl⟩:=h
 rw [List.getLast?_append]
 cases e:l.getLast? with
 | none=>simp at e; exact absurd e hn
 | some x=>rfl
theorem pop_tan {f p:Pt} {dn:List Pt} (hp:∀ q ∈ dn,lin f q < lin f p):∀ (st:List Pt),
  st.Pairwise (fun x y=>lin f y < lin f x)→(∀ b a,Adj st b a→∀ q ∈ dn,0≤turn a b q)→(∀ x ∈ st,x ∈ dn)→Tan f p st dn→Tan f p (popB p st) dn
 | [],_,_,_,h=>by simpa [popB] using h
 | [a],_,_,_,h=>by simpa [popB] using h
 | b :: a :: r,hd,he,hs,h=>by
  unfold popB
  split
  ·rename_i hle
   have hd':=(List.pairwise_cons.mp hd).2
   have hab:lin f a < lin f b:=(List.pairwise_cons.mp hd).1 a (by simp)
   have hbp:lin f b < lin f p:=hp b (hs b (by simp))
   refine pop_tan hp (a :: r) hd' (fun x y hxy=>he x y hxy.cons) (fun x hx=>hs x (by simp [hx])) ?_
   intro t ht q hq htq
   simp at ht; subst ht
   have hqp:=hp q hq
   rcases Int.lt_or_le (lin f q) (lin f b) with hqb | hqb
   ·have e1:=he b a ⟨[],r,rfl⟩ q hq
    have e:=plu f a b p q
    have e2:turn a q b = - turn a b q:=by rw [turn_swap a q b,turn_cyc q a b]
    have p1:0≤(lin f p - lin f a) * turn a b q:=Int.mul_nonneg (by omega) e1
    have p2:0≤(lin f q - lin f a) * (- turn a b p):=Int.mul_nonneg (by omega) (by omega)
    rw [e2] at e
    have p3:0≤(lin f b - lin f a) * turn a p q:=by grind
    exact nonneg_of_mul (by omega) p3
   ·have e1:=h b rfl q hq hqb
    have e:=plu f p a b q
    have e2:turn p b q = - turn b p q:=turn_swap _ _ _
    have e3:turn p q a = turn a p q:=by rw [turn_cyc a p q]
    have e4:turn p a b = turn a b p:=by rw [turn_cyc p a b]
    rw [e2,e3,e4] at e
    have p1:0≤(lin f p - lin f a) * turn b p q:=Int.mul_nonneg (by omega) e1
    have p2:0≤(lin f p - lin f q) * (- turn a b p):=Int.mul_nonneg (by omega) (by omega)
    have p3:0≤(lin f p - lin f b) * turn a p q:=by grind
    exact nonneg_of_mul (by omega) p3
  ·exact h
theorem popB_top (p:Pt):∀ st b a r,popB p st = b :: a :: r→0 < turn a b p
 | [],_,_,_,h=>by simp [popB] at h
 | [x],_,_,_,h=>by simp [popB] at h
 | y :: x :: r,b,a,r',h=>by
  unfold popB at h
  split at h
  ·exact popB_top p (x :: r) b a r' h
  ·rename_i hn
   simp at h; obtain ⟨rfl,rfl,rfl⟩:=h; omega
theorem edges_to {f p:Pt}:∀ (st:List Pt),st.Pairwise (fun x y=>lin f y < lin f x)→(∀ c b a pre post,st = pre++c :: b :: a :: post→0 < turn a b c)→(∀ x ∈ st,lin f x < lin f p) →
  (∀ b a r,st = b :: a :: r→0 < turn a b p)→∀ b a,Adj st b a→0 < turn a b p
 | [],_,_,_,_,b,a,h=>by obtain ⟨pre,post,e⟩:=h; simp at e
 | [x],_,_,_,_,b,a,h=>by
  obtain ⟨pre,post,e⟩:=h
  have:=congrArg List.length e; simp at this; omega
 | y :: x :: r,hd,hc,hp,ht,b,a,h=>by
  rcases h.cons_cases with ⟨rfl,e⟩ | h'
  ·simp at e; subst e; exact ht _ _ _ rfl
  ·refine edges_to (x :: r) (List.pairwise_cons.mp hd).2 (fun c b a pre post e=>hc c b a (y :: pre) post (by rw [e]; rfl)) (fun z hz=>hp z (by simp [hz])) ?_ b a h'
   intro b' a' r' e
   simp at e; obtain ⟨rfl,rfl⟩:=e
   have k1:=hc y x a' [] r' rfl
   have k2:=ht y x _ rfl
   have d1:=List.pairwise_cons.mp hd
   have d2:=List.pairwise_cons.mp d1.2
   exact far_turn (f:=f) (d2.1 a' (by simp)) (d1.1 x (by simp)) (hp y (by simp)) k1 k2
theorem Stk.step {f p:Pt} {st dn:List Pt} (S:Stk f st dn) (hp:∀ q ∈ dn,lin f q < lin f p):Stk f (p :: popB p st) (dn++[p]):=by
 have suf:=popB_suffix p st
 have hsub:∀ x ∈ popB p st,x ∈ dn:=fun x hx=>S.sub x (suf.subset hx)
 have hdec:(popB p st).Pairwise (fun x y=>lin f y < lin f x):=S.dec.sublist suf.sublist
 have hcvx:∀ c b a pre post,popB p st = pre++c :: b :: a :: post→0 < turn a b c:=fun c b a pre post e=>by
  obtain ⟨t,ht⟩:=suf
  exact S.cvx c b a (t++pre) post (by rw [← ht,e]; simp)
 have hadj:∀ b a,Adj (popB p st) b a→Adj st b a:=fun b a ⟨pre,post,e⟩=>by
  obtain ⟨t,ht⟩:=suf
  exact ⟨t++pre,post,by rw [← ht,e]; simp⟩
 have hedge:=edges_to (f:=f) (p:=p) (popB p st) hdec hcvx (fun x hx=>hp x (hsub x hx)) (fun b a r e=>popB_top p st b a r e)
 have tan0:Tan f p st dn:=fun t ht q hq hle=>by
  rcases S.top q hq t ht with h1 | h1
  ·subst h1; rw [turn_same]; exact Int.le_refl _
  ·omega
 have tan:=pop_tan hp st S.dec S.edge S.sub tan0
 refine ⟨List.pairwise_cons.mpr ⟨fun x hx=>hp x (hsub x hx),hdec⟩,fun c b a pre post e=>?_,fun b a h q hq=>?_,fun x hx=>?_,fun q hq x hx=>?_,fun _=>by simp,fun q hq x hx=>?_⟩
 ·cases pre with
  | nil=>simp at e; obtain ⟨rfl,e⟩:=e; exact popB_top p st b a post e
  | cons y pre=>simp at e; exact hcvx c b a pre post e.2
 ·rcases List.mem_append.mp hq with hq1 | hq
  ·rcases h.cons_cases with ⟨rfl,e⟩ | h'
   ·-- the new edge,a its tail
    rcases Int.lt_or_le (lin f q) (lin f a) with hlt | hle
    ·obtain ⟨r,hr⟩:∃ r,popB b st = a :: r:=by
      cases e':popB b st with
      | nil=>rw [e'] at e; simp at e
      | cons z r=>rw [e'] at e; simp at e; subst e; exact ⟨r,rfl⟩
     cases r with
     | nil =>
      have hl:st.getLast? = some a:=by rw [← suffix_getLast suf (by rw [hr]; simp),hr]; rfl
      have:=S.bot q hq1 a hl
      omega
     | cons z r =>
      have k1:=popB_top b st a z r hr
      have k2:=S.edge a z (hadj a z ⟨[],r,hr⟩) q hq1
      have d:lin f z < lin f a:=by rw [hr] at hdec; exact (List.pairwise_cons.mp hdec).1 z (by simp)
      have hab:lin f a < lin f b:=hp a (hsub a (by rw [hr]; simp))
      have e:=plu f a z b q
      have e2:turn a q z = turn z a q:=by rw [turn_cyc z a q]
      have e3:turn a z b = - turn z a b:=turn_swap _ _ _
      rw [e2,e3] at e
      have p1:0≤(lin f b - lin f a) * turn z a q:=Int.mul_nonneg (by omega) k2
      have p2:0≤(lin f a - lin f q) * turn z a b:=Int.mul_nonneg (by omega) (by omega)
      have p3:0≤(lin f a - lin f z) * turn a b q:=by grind
      exact nonneg_of_mul (by omega) p3
    ·exact tan a e q hq1 hle
   ·exact S.edge b a (hadj b a h') q hq1
  ·simp at hq; subst hq
   rcases h.cons_cases with ⟨rfl,e⟩ | h'
   ·rw [turn_same']; exact Int.le_refl _
   ·exact Int.le_of_lt (hedge b a h')
 ·rcases List.mem_cons.mp hx with rfl | hx
  ·simp
  ·exact List.mem_append_left _ (hsub x hx)
 ·by_cases hs:st = []
  ·subst hs
   have hdn:dn = []:=by
    cases dn with
    | nil=>rfl
    | cons z r=>exact absurd rfl (S.ne (by simp))
   subst hdn
   simp [popB] at hx
   simp at hq
   subst hq; subst hx; exact Int.le_refl _
  ·have hn:=popB_ne p st hs
   have hl:(p :: popB p st).getLast? = st.getLast?:=by
    rw [← suffix_getLast suf hn,List.getLast?_cons]
    cases e':(popB p st).getLast? with
    | none=>simp at e'; exact absurd e' hn
    | some z=>rfl
   rw [hl] at hx
   rcases List.mem_append.mp hq with hq | hq
   ·exact S.bot q hq x hx
   ·simp at hq; subst hq
    exact Int.le_of_lt (hp x (S.sub x (List.mem_of_getLast? hx)))
 ·simp at hx; subst hx
  rcases List.mem_append.mp hq with hq | hq
  ·exact .inr (hp q hq)
  ·simp at hq; exact .inl hq
theorem Stk.nil (f:Pt):Stk f [] []:=⟨.nil,fun c b a pre post e=>by simp at e,fun b a ⟨pre,post,e⟩=>by simp at e,fun x hx=>hx,fun q hq=>by simp at hq,fun h=>absurd rfl h,fun q hq=>by simp at hq⟩
theorem Stk.run {f:Pt}:∀ (ps st dn:List Pt),Stk f st dn→(dn++ps).Pairwise (fun x y=>lin f x < lin f y)→Stk f (sideRev st ps) (dn++ps)
 | [],st,dn,S,_=>by simpa [sideRev] using S
 | p :: r,st,dn,S,h=>by
  have h':(dn++[p]++r).Pairwise (fun x y=>lin f x < lin f y):=by simpa using h
  have q:=Stk.run r (p :: popB p st) (dn++[p]) (S.step fun q hq=>(List.pairwise_append.mp h).2.2 q hq p (by simp)) h'
  simpa [sideRev] using q
theorem sideRev_last {p z:Pt}:∀ (ps st:List Pt),(st ≠ []→st.getLast? = some z)→ps ≠ []∨st ≠ []→(st = []→ps.head? = some z)→(sideRev st ps).getLast? = some z
 | [],st,h,hn,_=>by
  simp [sideRev]
  rcases hn with hn | hn
  ·exact absurd rfl hn
  ·exact h hn
 | p' :: r,st,h,_,h0=>by
  unfold sideRev
  refine sideRev_last (p:=p) r _ (fun _=>?_) (.inr (by simp)) (fun e=>by simp at e)
  by_cases hs:st = []
  ·subst hs; simpa [popB] using h0 rfl
  ·have hn:=popB_ne p' st hs
   rw [List.getLast?_cons,suffix_getLast (popB_suffix p' st) hn,h hs]; rfl
theorem sideRev_head:∀ (ps st:List Pt),ps ≠ []→(sideRev st ps).head? = ps.getLast?
 | [],_,h=>absurd rfl h
 | [p],st,_=>by simp [sideRev]
 | p :: q :: r,st,_=>by
  unfold sideRev
  rw [sideRev_head (q :: r) _ (by simp)]
  simp
theorem Adj.rev {l:List Pt} {a b:Pt} (h:Adj l a b):Adj l.reverse b a:=by
 obtain ⟨pre,post,rfl⟩:=h
 exact ⟨post.reverse,pre.reverse,by simp⟩
structure Chn (f:Pt) (c S:List Pt):Prop where
 inc:c.Pairwise (fun x y=>lin f x < lin f y)
 cvx:∀ x y z pre post,c = pre++x :: y :: z :: post→0 < turn x y z
 edge:∀ a b,Adj c a b→∀ q ∈ S,0≤turn a b q
 sub:∀ x ∈ c,x ∈ S
 first:c.head? = S.head?
 last:c.getLast? = S.getLast?
theorem side_chn {f:Pt} {S:List Pt} (hS:S.Pairwise (fun x y=>lin f x < lin f y)):Chn f (sideOf S) S:=by
 have K:=Stk.run S [] [] (Stk.nil f) (by simpa using hS)
 simp at K
 unfold sideOf
 refine ⟨?_,fun x y z pre post e=>?_,fun a b h q hq=>?_,fun x hx=>K.sub x (by simpa using hx),?_,?_⟩
 ·rw [List.pairwise_reverse]; exact K.dec
 ·have e':=congrArg List.reverse e
  simp at e'
  exact K.cvx z y x post.reverse pre.reverse (by simpa using e')
 ·have h':=h.rev
  simp at h'
  exact K.edge b a h' q hq
 ·rw [List.head?_reverse]
  cases S with
  | nil=>rfl
  | cons p r=>exact sideRev_last (p:=p) (z:=p) (p :: r) [] (fun h=>absurd rfl h) (.inl (by simp)) (fun _=>rfl)
 ·rw [List.getLast?_reverse]
  cases S with
  | nil=>rfl
  | cons p r=>exact sideRev_head (p :: r) [] (by simp)
theorem neg_lin (f p:Pt):lin (-f.1,-f.2) p = - lin f p:=by unfold lin; grind
theorem side_chn_rev {f:Pt} {S:List Pt} (hS:S.Pairwise (fun x y=>lin f x < lin f y)):Chn (-f.1,-f.2) (sideOf S.reverse) S.reverse:=by
 refine side_chn ?_
 rw [List.pairwise_reverse]
 refine hS.imp fun {a b} h=>?_
 rw [neg_lin,neg_lin]; omega
theorem inc_get {f:Pt} {c:List Pt} (h:c.Pairwise (fun x y=>lin f x < lin f y)) {pre post:List Pt} {x y:Pt} (e:c = pre++x :: post) (hy:y ∈ post):lin f x < lin f y:=by
 subst e
 exact (List.pairwise_cons.mp (List.pairwise_append.mp h).2.1).1 y hy
theorem Chn.later {f:Pt} {c S:List Pt} (C:Chn f c S):∀ (post pre:List Pt) (a b q:Pt),c = pre++a :: b :: post→q ∈ post→0 < turn a b q
 | [],_,_,_,_,_,h=>by simp at h
 | z :: post,pre,a,b,q,e,hq=>by
  have k1:=C.cvx a b z pre post e
  rcases List.mem_cons.mp hq with rfl | hq
  ·exact k1
  ·have e2:c = (pre++[a])++b :: z :: post:=by rw [e]; simp
   have k2:=C.later post (pre++[a]) b z q e2 hq
   have o1:=inc_get C.inc e (y:=b) (by simp)
   have o2:=inc_get C.inc e2 (y:=z) (by simp)
   have o3:=inc_get C.inc (show c = (pre++[a,b])++z :: post by rw [e]; simp) hq
   exact far_turn o1 o2 o3 k1 k2
theorem Chn.earlier {f:Pt} {c S:List Pt} (C:Chn f c S):∀ (mid pre:List Pt) (q a b:Pt) (post:List Pt),c = pre++q :: mid++a :: b :: post→0 < turn q a b:=by
 intro mid
 induction mid with
 | nil=>intro pre q a b post e; exact C.cvx q a b pre post (by rw [e]; simp)
 | cons m mid ih =>
  intro pre q a b post e
  have k1:0 < turn m a b:=ih (pre++[q]) m a b post (by rw [e]; simp)
  have k2:0 < turn q m a:=by
   refine C.later (mid++a :: b :: post) pre q m a (by rw [e]; simp) (by simp)
  have o1:=inc_get C.inc (show c = pre++q :: (m :: mid++a :: b :: post) by rw [e]; simp) (y:=m) (by simp)
  have o2:=inc_get C.inc (show c = (pre++[q])++m :: (mid++a :: b :: post) by rw [e]; simp) (y:=a) (by simp)
  have o3:=inc_get C.inc (show c = (pre++q :: m :: mid)++a :: b :: post from e) (y:=b) (by simp)
  have:=back_turn o1 o2 o3 k2 k1
  rw [turn_cyc]; exact this
theorem Chn.mid {f:Pt} {c S:List Pt} (C:Chn f c S) {q a z:Pt} {pre post:List Pt} (e:c = q :: pre++a :: post++[z]):0 < turn q a z:=by
 cases post with
 | nil=>exact C.earlier pre [] q a z [] (by rw [e]; simp)
 | cons b post =>
  have k1:0 < turn q a b:=C.earlier pre [] q a b (post++[z]) (by rw [e]; simp)
  have k2:0 < turn a b z:=C.later (post++[z]) (q :: pre) a b z (by rw [e]; simp) (by simp)
  have o1:=inc_get C.inc (show c = []++q :: (pre++a :: b :: post++[z]) by rw [e]; simp) (y:=a) (by simp)
  have o2:=inc_get C.inc (show c = (q :: pre)++a :: (b :: post++[z]) by rw [e]; simp) (y:=b) (by simp)
  have o3:=inc_get C.inc (show c = (q :: pre++[a])++b :: (post++[z]) by rw [e]; simp) (y:=z) (by simp)
  exact far_turn o1 o2 o3 k1 k2
def wrt (l:Int×Int×Int) (p:Pt):Int:=l.1 * p.1+l.2.1 * p.2+l.2.2
def hullR (S:List Pt):List Pt:=if S.length < 2 then S else (sideOf S).dropLast++(sideOf S.reverse).dropLast
theorem ends_form {c:List Pt} {x y:Pt} (h1:c.head? = some x) (h2:c.getLast? = some y) (hn:x ≠ y):∃ m,c = x :: m++[y]:=by
 cases c with
 | nil=>simp at h1
 | cons a r =>
  simp at h1; subst h1
  cases e:r.getLast? with
  | none =>
   simp at e; subst e; simp at h2; exact absurd h2 hn
  | some z =>
   rw [List.getLast?_cons,e] at h2
   simp at h2; subst h2
   obtain ⟨l,hl⟩:=List.getLast?_eq_some_iff.mp e
   exact ⟨l,by rw [hl]; rfl⟩
structure Two (f:Pt) (S:List Pt) (a z:Pt) (Lx Ux:List Pt):Prop where
 lo:Chn f (a :: Lx++[z]) S
 up:Chn (-f.1,-f.2) (z :: Ux++[a]) S.reverse
 out:hullR S = a :: Lx++z :: Ux
 fst:S.head? = some a
 lst:S.getLast? = some z
 lt:lin f a < lin f z
 inc:S.Pairwise (fun x y=>lin f x < lin f y)
theorem two_of {f:Pt} {S:List Pt} (hS:S.Pairwise (fun x y=>lin f x < lin f y)) (h2:2≤S.length):∃ a z Lx Ux,Two f S a z Lx Ux:=by
 have C1:=side_chn hS
 have C2:=side_chn_rev hS
 match S,h2 with
 | a :: b :: r,_ =>
  obtain ⟨z,hz⟩:∃ z,(a :: b :: r).getLast? = some z:=⟨_,List.getLast?_eq_some_getLast (by simp)⟩
  have hzm:z ∈ b :: r:=by
   rw [List.getLast?_cons_cons] at hz
   exact List.mem_of_getLast? hz
  have hlt:lin f a < lin f z:=(List.pairwise_cons.mp hS).1 z hzm
  have hne:a ≠ z:=fun e=>by rw [e] at hlt; omega
  obtain ⟨Lx,hL⟩:=ends_form (C1.first.trans (by simp:(a :: b :: r).head? = some a)) (C1.last.trans hz) hne
  have f2:(a :: b :: r).reverse.head? = some z:=by rw [List.head?_reverse]; exact hz
  have l2:(a :: b :: r).reverse.getLast? = some a:=by rw [List.getLast?_reverse]; rfl
  obtain ⟨Ux,hU⟩:=ends_form (C2.first.trans f2) (C2.last.trans l2) hne.symm
  refine ⟨a,z,Lx,Ux,⟨by rw [← hL]; exact C1,by rw [← hU]; exact C2,?_,rfl,hz,hlt,hS⟩⟩
  unfold hullR
  rw [if_neg (by simp),hL,hU,List.dropLast_concat,List.dropLast_concat]
section
variable {f:Pt} {S:List Pt} {a z:Pt} {Lx Ux:List Pt}
theorem Two.sub (T:Two f S a z Lx Ux):∀ x ∈ hullR S,x ∈ S:=fun x hx=>by
 rw [T.out] at hx
 rcases List.mem_append.mp hx with h | h
 ·exact T.lo.sub x (by rcases List.mem_cons.mp h with h | h <;> simp [h])
 ·have:=T.up.sub x (by rcases List.mem_cons.mp h with h | h <;> simp [h])
  simpa using this
theorem Two.low (T:Two f S a z Lx Ux):∀ q ∈ S,q ≠ a→lin f a < lin f q:=fun q hq hn=>by
 have h1:=T.fst
 cases S with
 | nil=>simp at h1
 | cons x r =>
  simp at h1; subst h1
  rcases List.mem_cons.mp hq with h | h
  ·exact absurd h hn
  ·exact (List.pairwise_cons.mp T.inc).1 q h
theorem Two.high (T:Two f S a z Lx Ux):∀ q ∈ S,q ≠ z→lin f q < lin f z:=fun q hq hn=>by
 obtain ⟨l,hl⟩:=List.getLast?_eq_some_iff.mp T.lst
 have hi:=T.inc
 rw [hl] at hi hq
 rcases List.mem_append.mp hq with h | h
 ·exact (List.pairwise_append.mp hi).2.2 q h z (by simp)
 ·simp at h; exact absurd h hn
def Rnd (R:List Pt) (x y:Pt):Prop:=Adj R x y∨(R.getLast? = some x∧R.head? = some y)
theorem adj_append {l m:List Pt} {z x y:Pt} (h:Adj (l++z :: m) x y):Adj (l++[z]) x y∨Adj (z :: m) x y:=by
 induction l with
 | nil=>exact .inr h
 | cons a r ih =>
  rcases h.cons_cases with ⟨rfl,e⟩ | h'
  ·left
   cases r with
   | nil=>simp at e; subst e; exact ⟨[],[],rfl⟩
   | cons b r=>simp at e; subst e; exact ⟨[],r++[z],rfl⟩
  ·rcases ih h' with h' | h'
   ·exact .inl h'.cons
   ·exact .inr h'
theorem Adj.snoc {l:List Pt} {x y w:Pt} (h:Adj l x y):Adj (l++[w]) x y:=by
 obtain ⟨pre,post,rfl⟩:=h; exact ⟨pre,post++[w],by simp⟩
theorem adj_last {l:List Pt} {x y:Pt} (h:l.getLast? = some x):Adj (l++[y]) x y:=by
 obtain ⟨m,rfl⟩:=List.getLast?_eq_some_iff.mp h
 exact ⟨m,[],by simp⟩
theorem Two.rnd (T:Two f S a z Lx Ux) {x y:Pt} (h:Rnd (hullR S) x y):Adj (a :: Lx++[z]) x y∨Adj (z :: Ux++[a]) x y:=by
 rw [T.out] at h
 rcases h with h | ⟨h1,h2⟩
 ·rcases adj_append h with h | h
  ·exact .inl h
  ·exact .inr h.snoc
 ·right
  simp at h2; subst h2
  rw [List.getLast?_append] at h1
  have h1':(z :: Ux).getLast? = some x:=by
   cases e:(z :: Ux).getLast? with
   | none=>simp at e
   | some w=>rw [e] at h1; simpa using h1
  exact adj_last h1'
theorem Two.left (T:Two f S a z Lx Ux) {x y:Pt} (h:Rnd (hullR S) x y):∀ q ∈ S,0≤turn x y q:=fun q hq=>by
 rcases T.rnd h with h | h
 ·exact T.lo.edge x y h q hq
 ·exact T.up.edge x y h q (by simpa using hq)
theorem Two.fan (T:Two f S a z Lx Ux) {x y:Pt} (h:Adj (Lx++z :: Ux) x y):0 < turn a x y:=by
 rcases adj_append h with ⟨pre,post,e⟩ | ⟨pre,post,e⟩
 ·exact T.lo.earlier pre [] a x y post (by rw [List.cons_append,e]; simp)
 ·have:=T.up.later (post++[a]) pre x y a (by rw [e]; simp) (by simp)
  rw [turn_cyc]; exact this
end
theorem fan_find {o p:Pt}:∀ (l:List Pt) (b:Pt),(∀ x y,Adj (b :: l) x y→0 < turn o x y∧0≤turn x y p)→0≤turn o b p→l ≠ []→(∀ w,(b :: l).getLast? = some w→turn o w p≤0) →
  ∃ x y,Adj (b :: l) x y∧0≤turn o x p∧0≤turn x y p∧turn o y p≤0∧0 < turn o x y
 | [],_,_,_,h,_=>absurd rfl h
 | c :: l,b,he,hb,_,hw=>by
  have e:=he b c ⟨[],l,rfl⟩
  rcases Int.lt_or_le 0 (turn o c p) with h | h
  ·cases l with
   | nil =>
    have:=hw c (by simp)
    omega
   | cons d l =>
    obtain ⟨x,y,h1,h2⟩:=fan_find (d :: l) c (fun x y h=>he x y h.cons) (Int.le_of_lt h) (by simp) (fun w hw'=>hw w (by rw [List.getLast?_cons_cons]; exact hw'))
    exact ⟨x,y,h1.cons,h2⟩
  ·exact ⟨b,c,⟨[],l,rfl⟩,hb,e.2,h,e.1⟩
end Geo
namespace Geo
def InTwo (a b p:Pt):Prop:=turn a b p = 0∧min a.1 b.1≤p.1∧p.1≤max a.1 b.1∧min a.2 b.2≤p.2∧p.2≤max a.2 b.2
def InThree (a b c p:Pt):Prop:=turn a b c ≠ 0∧((0≤turn a b p∧0≤turn b c p∧0≤turn c a p)∨(turn a b p≤0∧turn b c p≤0∧turn c a p≤0))
def Within (ps:List Pt) (p:Pt):Prop:=∃ (a:Nat) (x:Pt),ps[a]? = some x∧(x = p∨∃ (b:Nat) (y:Pt),b < a∧ps[b]? = some y∧(InTwo x y p∨∃ (c:Nat) (w:Pt),c < b∧ps[c]? = some w∧InThree x y w p))
theorem InTwo.symm {a b p:Pt} (h:InTwo a b p):InTwo b a p:=by
 obtain ⟨h1,h2,h3,h4,h5⟩:=h
 exact ⟨by rw [turn_swap]; omega,by omega,by omega,by omega,by omega⟩
theorem InTwo.same {a p:Pt} (h:InTwo a a p):a = p:=by
 obtain ⟨h1,h2,h3,h4,h5⟩:=h
 exact Prod.ext (by omega) (by omega)
theorem InThree.swap {a b c p:Pt} (h:InThree a b c p):InThree b a c p:=by
 obtain ⟨h1,h2⟩:=h
 have e1:=turn_swap a b c
 have e2:=turn_swap a b p
 have e3:=turn_swap b c p
 have e4:=turn_swap c a p
 exact ⟨by omega,by omega⟩
theorem two_pos {l:Int×Int×Int} {a b p:Pt} (h:InTwo a b p) (ha:0 < wrt l a) (hb:0 < wrt l b):0 < wrt l p:=by
 obtain ⟨h1,h2,h3,h4,h5⟩:=h
 have key1:(b.1 - a.1) * wrt l p = (b.1 - p.1) * wrt l a+(p.1 - a.1) * wrt l b:=by
  have e:(b.1 - a.1) * wrt l p = (b.1 - p.1) * wrt l a+(p.1 - a.1) * wrt l b+l.2.1 * turn a b p:=by unfold wrt turn; grind
  rw [e,h1]; simp
 have key2:(b.2 - a.2) * wrt l p = (b.2 - p.2) * wrt l a+(p.2 - a.2) * wrt l b:=by
  have e:(b.2 - a.2) * wrt l p = (b.2 - p.2) * wrt l a+(p.2 - a.2) * wrt l b - l.1 * turn a b p:=by unfold wrt turn; grind
  rw [e,h1]; simp
 have mix:∀ {u v x y:Int},0≤u→0≤v→0 < u+v→0 < x→0 < y→0 < u * x+v * y:=fun {u v x y} hu hv huv hx hy=>by
  have m1:0≤u * x:=Int.mul_nonneg hu (by omega)
  have m2:0≤v * y:=Int.mul_nonneg hv (by omega)
  rcases Int.lt_or_le 0 u with h | h
  ·have:=Int.mul_pos h hx; omega
  ·have:=Int.mul_pos (show 0 < v by omega) hy; omega
 rcases Int.lt_trichotomy a.1 b.1 with c | c | c
 ·have:=mix (u:=b.1 - p.1) (v:=p.1 - a.1) (by omega) (by omega) (by omega) ha hb
  rw [← key1] at this
  exact pos_of_mul (by omega) this
 ·rcases Int.lt_trichotomy a.2 b.2 with d | d | d
  ·have:=mix (u:=b.2 - p.2) (v:=p.2 - a.2) (by omega) (by omega) (by omega) ha hb
   rw [← key2] at this
   exact pos_of_mul (by omega) this
  ·have e:a = p:=Prod.ext (by omega) (by omega)
   rw [← e]; exact ha
  ·have:=mix (u:=p.2 - b.2) (v:=a.2 - p.2) (by omega) (by omega) (by omega) ha hb
   have e:(a.2 - b.2) * wrt l p = (p.2 - b.2) * wrt l a+(a.2 - p.2) * wrt l b:=by grind
   rw [← e] at this
   exact pos_of_mul (by omega) this
 ·have:=mix (u:=p.1 - b.1) (v:=a.1 - p.1) (by omega) (by omega) (by omega) ha hb
  have e:(a.1 - b.1) * wrt l p = (p.1 - b.1) * wrt l a+(a.1 - p.1) * wrt l b:=by grind
  rw [← e] at this
  exact pos_of_mul (by omega) this
theorem three_eq (l:Int×Int×Int) (a b c p:Pt):turn a b c * wrt l p = turn b c p * wrt l a+turn c a p * wrt l b+turn a b p * wrt l c:=by unfold wrt turn; grind
theorem three_sum (a b c p:Pt):turn a b c = turn b c p+turn c a p+turn a b p:=by unfold turn; grind
theorem three_pos0 {l:Int×Int×Int} {a b c p:Pt} (h:0 < turn a b c) (h1:0≤turn a b p) (h2:0≤turn b c p) (h3:0≤turn c a p) (ha:0 < wrt l a) (hb:0 < wrt l b) (hc:0 < wrt l c):0 < wrt l p:=by
 have e:=three_eq l a b c p
 have s:=three_sum a b c p
 have m1:=Int.mul_nonneg h2 (Int.le_of_lt ha)
 have m2:=Int.mul_nonneg h3 (Int.le_of_lt hb)
 have m3:=Int.mul_nonneg h1 (Int.le_of_lt hc)
 have:0 < turn b c p * wrt l a+turn c a p * wrt l b+turn a b p * wrt l c:=by
  rcases Int.lt_or_le 0 (turn b c p) with k | k
  ·have:=Int.mul_pos k ha; omega
  ·rcases Int.lt_or_le 0 (turn c a p) with k' | k'
   ·have:=Int.mul_pos k' hb; omega
   ·have:=Int.mul_pos (show 0 < turn a b p by omega) hc; omega
 rw [← e] at this
 exact pos_of_mul h this
theorem three_pos {l:Int×Int×Int} {a b c p:Pt} (h:InThree a b c p) (ha:0 < wrt l a) (hb:0 < wrt l b) (hc:0 < wrt l c):0 < wrt l p:=by
 have go:∀ {a b c:Pt},InThree a b c p→0 < turn a b c→0 < wrt l a→0 < wrt l b→0 < wrt l c→0 < wrt l p:=fun {a b c} h ht ha hb hc=>by
  rcases h.2 with k | k
  ·exact three_pos0 ht k.1 k.2.1 k.2.2 ha hb hc
  ·have s:=three_sum a b c p
   omega
 rcases Int.lt_or_le 0 (turn a b c) with k | k
 ·exact go h k ha hb hc
 ·have:=h.1
  have e:=turn_swap a b c
  exact go h.swap (by omega) hb ha hc
theorem two_of_line {f a z p:Pt} (ht:turn a z p = 0) (h1:lin f a≤lin f p) (h2:lin f p≤lin f z) (h3:lin f a < lin f z):InTwo a z p:=by
 have k1:(lin f z - lin f a) * (p.1 - a.1) = (lin f p - lin f a) * (z.1 - a.1):=by
  have e:(lin f z - lin f a) * (p.1 - a.1) = (lin f p - lin f a) * (z.1 - a.1) - f.2 * turn a z p:=by unfold lin turn; grind
  rw [e,ht]; simp
 have k2:(lin f z - lin f a) * (p.2 - a.2) = (lin f p - lin f a) * (z.2 - a.2):=by
  have e:(lin f z - lin f a) * (p.2 - a.2) = (lin f p - lin f a) * (z.2 - a.2)+f.1 * turn a z p:=by unfold lin turn; grind
  rw [e,ht]; simp
 have btw:∀ {N M x y w:Int},0 < N→0≤M→M≤N→N * (y - x) = M * (w - x)→min x w≤y∧y≤max x w:=fun {N M x y w} hN hM hMN e=>by
  have e2:N * (w - y) = (N - M) * (w - x):=by grind
  rcases Int.lt_or_le w x with c | c
  ·have q1:0≤M * (x - w):=Int.mul_nonneg hM (by omega)
   have q2:0≤(N - M) * (x - w):=Int.mul_nonneg (by omega) (by omega)
   have q3:0≤N * (x - y):=by grind
   have q4:0≤N * (y - w):=by grind
   have:=nonneg_of_mul hN q3
   have:=nonneg_of_mul hN q4
   omega
  ·have q1:0≤M * (w - x):=Int.mul_nonneg hM (by omega)
   have q2:0≤(N - M) * (w - x):=Int.mul_nonneg (by omega) (by omega)
   have:=nonneg_of_mul hN (show 0≤N * (y - x) by omega)
   have:=nonneg_of_mul hN (show 0≤N * (w - y) by omega)
   omega
 have b1:=btw (by omega) (by omega) (by omega) k1
 have b2:=btw (by omega) (by omega) (by omega) k2
 exact ⟨ht,b1.1,b1.2,b2.1,b2.2⟩
theorem Two.holds {f:Pt} {S:List Pt} {a z:Pt} {Lx Ux:List Pt} (T:Two f S a z Lx Ux) {p:Pt} (h:∀ x y,Rnd (hullR S) x y→0≤turn x y p) (hl:Lx++z :: Ux = [z]→lin f a≤lin f p∧lin f p≤lin f z) :
  (hullR S = [a,z]∧InTwo a z p)∨∃ x y,Adj (Lx++z :: Ux) x y∧0≤turn a x p∧0≤turn x y p∧turn a y p≤0∧0 < turn a x y:=by
 have out:=T.out
 rw [List.cons_append] at out
 cases e:Lx++z :: Ux with
 | nil=>simp at e
 | cons b l =>
  rw [e] at out
  have hlast:∀ w,(b :: l).getLast? = some w→turn a w p≤0:=fun w hw=>by
   have:=h w a (.inr ⟨by rw [out,List.getLast?_cons_cons]; exact hw,by rw [out]; rfl⟩)
   rw [turn_swap] at this; omega
  have hfirst:0≤turn a b p:=h a b (.inl ⟨[],l,by rw [out]; rfl⟩)
  cases l with
  | nil =>
   left
   have hz:b = z∧Lx = []∧Ux = []:=by
    cases Lx with
    | nil=>simp at e; exact ⟨e.1.symm,rfl,e.2⟩
    | cons c r=>simp at e
   obtain ⟨rfl,rfl,rfl⟩:=hz
   refine ⟨out,two_of_line (f:=f) ?_ (hl rfl).1 (hl rfl).2 T.lt⟩
   have:=hlast b rfl
   omega
  | cons c l =>
   right
   refine fan_find (c :: l) b (fun x y hxy=>⟨?_,h x y (.inl (by rw [out]; exact hxy.cons))⟩) hfirst (by simp) hlast
   exact T.fan (by rw [e]; exact hxy)
end Geo
namespace Geo
def ltP (p q:Pt):Bool:=decide (p.1 < q.1) || (decide (p.1 = q.1) && decide (p.2 < q.2))
def leP (p q:Pt):Bool:=!ltP q p
theorem ltP_iff {p q:Pt}:ltP p q = true↔p.1 < q.1∨(p.1 = q.1∧p.2 < q.2):=by unfold ltP; simp
theorem leP_iff {p q:Pt}:leP p q = true↔p.1 < q.1∨(p.1 = q.1∧p.2≤q.2):=by
 unfold leP
 rw [Bool.not_eq_true',Bool.eq_false_iff,Ne,ltP_iff]; omega
theorem leP_antisymm {p q:Pt} (h1:leP p q = true) (h2:leP q p = true):p = q:=by
 rw [leP_iff] at h1 h2
 exact Prod.ext (by omega) (by omega)
def sortP (xs:List Pt):List Pt:=xs.mergeSort leP
theorem sortP_perm (xs:List Pt):(sortP xs).Perm xs:=List.mergeSort_perm _ _
theorem sortP_pw (xs:List Pt):(sortP xs).Pairwise (fun a b=>leP a b = true) :=
 List.pairwise_mergeSort (fun a b c h1 h2=>by rw [leP_iff] at *; omega) (fun a b=>by rw [Bool.or_eq_true,leP_iff,leP_iff]; omega) xs
theorem sortP_unique {xs ys:List Pt} (hp:ys.Perm xs) (hs:ys.Pairwise (fun a b=>leP a b = true)):ys = sortP xs :=
 List.Perm.eq_of_pairwise (le:=fun a b=>leP a b = true) (fun _ _ _ _ h1 h2=>leP_antisymm h1 h2) hs (sortP_pw xs) (hp.trans (sortP_perm xs).symm)
theorem sortP_length (xs:List Pt):(sortP xs).length = xs.length:=(sortP_perm xs).length_eq
def dedP:List Pt→List Pt
 | []=>[]
 | x :: r=>x :: (dedP r).filter (fun y=>decide (y ≠ x))
theorem mem_dedP {x:Pt}:∀ {xs:List Pt},x ∈ dedP xs↔x ∈ xs
 | []=>by simp [dedP]
 | y :: r=>by
  unfold dedP
  rw [List.mem_cons,List.mem_cons,List.mem_filter,mem_dedP (xs:=r)]
  by_cases h:x = y <;> simp [h]
theorem dedP_nodup:∀ xs:List Pt,(dedP xs).Nodup
 | []=>by simp [dedP]
 | y :: r=>by
  unfold dedP
  rw [List.nodup_cons]
  exact ⟨fun h=>by have:=(List.mem_filter.mp h).2; simp at this,(dedP_nodup r).filter _⟩
theorem dedP_le:∀ xs:List Pt,(dedP xs).length≤xs.length
 | []=>by simp [dedP]
 | y :: r=>by
  unfold dedP
  have:=dedP_le r
  have:=List.length_filter_le (fun z=>decide (z ≠ y)) (dedP r)
  simp only [List.length_cons]; omega
def uniqP (xs:List Pt):List Pt:=sortP (dedP xs)
theorem mem_uniqP {x:Pt} {xs:List Pt}:x ∈ uniqP xs↔x ∈ xs:=(sortP_perm _).mem_iff.trans mem_dedP
theorem uniqP_nodup (xs:List Pt):(uniqP xs).Nodup:=(sortP_perm _).nodup_iff.mpr (dedP_nodup xs)
theorem uniqP_le (xs:List Pt):(uniqP xs).length≤xs.length:=by
 unfold uniqP; rw [sortP_length]; exact dedP_le xs
theorem uniqP_unique {xs ys:List Pt} (hn:ys.Nodup) (hm:∀ x,x ∈ ys↔x ∈ xs) (hs:ys.Pairwise (fun a b=>leP a b = true)):ys = uniqP xs :=
 sortP_unique ((List.perm_ext_iff_of_nodup hn (dedP_nodup xs)).mpr fun x=>(hm x).trans mem_dedP.symm) hs
theorem uniqP_lt (xs:List Pt):(uniqP xs).Pairwise (fun a b=>ltP a b = true):=by
 have h1:=sortP_pw (dedP xs)
 have h2:(uniqP xs).Pairwise (· ≠ ·):=uniqP_nodup xs
 refine (h1.and h2).imp fun {a b} ⟨h,n⟩=>?_
 rw [leP_iff] at h; rw [ltP_iff]
 rcases h with h | ⟨h,k⟩
 ·exact .inl h
 ·refine .inr ⟨h,?_⟩
  rcases Int.lt_or_eq_of_le k with k | k
  ·exact k
  ·exact absurd (Prod.ext h k) n
def Bd (p:Pt):Prop:=-1000≤p.1∧p.1≤1000∧-1000≤p.2∧p.2≤1000
def Bd2 (p:Pt):Prop:=-2000≤p.1∧p.1≤2000∧-2000≤p.2∧p.2≤2000
def Bw (p:Pt):Prop:=-4611686018427387904≤p.1∧p.1≤4611686018427387904∧-4611686018427387904≤p.2∧p.2≤4611686018427387904
theorem Bd.two {p:Pt} (h:Bd p):Bd2 p:=by unfold Bd at h; unfold Bd2; omega
theorem Bd2.w {p:Pt} (h:Bd2 p):Bw p:=by unfold Bd2 at h; unfold Bw; omega
theorem Bd.w {p:Pt} (h:Bd p):Bw p:=h.two.w
abbrev F0:Pt:=(4001,1)
theorem lt_lin {p q:Pt} (hp:Bd2 p) (hq:Bd2 q):ltP p q = true↔lin F0 p < lin F0 q:=by
 obtain ⟨a1,a2,a3,a4⟩:=hp
 obtain ⟨b1,b2,b3,b4⟩:=hq
 rw [ltP_iff]; show _↔4001 * p.1+1 * p.2 < 4001 * q.1+1 * q.2
 omega
theorem uniqP_inc {xs:List Pt} (h:∀ p ∈ xs,Bd2 p):(uniqP xs).Pairwise (fun a b=>lin F0 a < lin F0 b):=by
 have h1:=uniqP_lt xs
 have h2:∀ p ∈ uniqP xs,Bd2 p:=fun p hp=>h p (mem_uniqP.mp hp)
 exact List.Pairwise.imp_of_mem (fun {a b} ha hb k=>(lt_lin (h2 a ha) (h2 b hb)).mp k) h1
def cornersM (xs:List Pt):List Pt:=hullR (uniqP xs)
def others (ps:List Pt) (p:Pt):List Pt:=ps.filter (fun q=>decide (q ≠ p))
structure RightP (R ps:List Pt):Prop where
 nd:R.Nodup
 mem:∀ x,x ∈ R↔x ∈ ps∧¬ Within (others ps x) x
 fst:R.take 1 = (sortP R).take 1
 left:∀ x y,Rnd R x y→∀ q ∈ ps,0≤turn x y q
theorem cornersM_sub {ps:List Pt} (h:∀ p ∈ ps,Bd2 p):∀ x ∈ cornersM ps,x ∈ ps:=fun x hx=>by
 unfold cornersM at hx
 by_cases h2:2≤(uniqP ps).length
 ·obtain ⟨a,z,Lx,Ux,T⟩:=two_of (uniqP_inc h) h2
  exact mem_uniqP.mp (T.sub x hx)
 ·unfold hullR at hx; rw [if_pos (by omega)] at hx; exact mem_uniqP.mp hx
end Geo
set_option maxRecDepth 100000
namespace Geo
abbrev Ln:=Int×Int×Int
def InHull (ps:List Pt) (p:Pt):Prop:=∀ l:Ln,(∀ q ∈ ps,0≤wrt l q)→0≤wrt l p
def Out (ps:List Pt) (p:Pt) (l:Ln):Prop:=wrt l p < 0∧∀ q ∈ ps,0≤wrt l q
theorem Out.not {ps:List Pt} {p:Pt} {l:Ln} (h:Out ps p l):¬ InHull ps p:=fun k=>by have:=k l h.2; have:=h.1; omega
theorem wrt_one (l:Ln) (p:Pt):wrt (l.1,l.2.1,l.2.2+1) p = wrt l p+1:=by unfold wrt; dsimp only; omega
theorem two_nn {l:Ln} {a b p:Pt} (h:InTwo a b p) (ha:0≤wrt l a) (hb:0≤wrt l b):0≤wrt l p:=by
 have:=two_pos (l:=(l.1,l.2.1,l.2.2+1)) h (by rw [wrt_one]; omega) (by rw [wrt_one]; omega)
 rw [wrt_one] at this; omega
theorem three_nn {l:Ln} {a b c p:Pt} (h:InThree a b c p) (ha:0≤wrt l a) (hb:0≤wrt l b) (hc:0≤wrt l c):0≤wrt l p:=by
 have:=three_pos (l:=(l.1,l.2.1,l.2.2+1)) h (by rw [wrt_one]; omega) (by rw [wrt_one]; omega) (by rw [wrt_one]; omega)
 rw [wrt_one] at this; omega
theorem InHull.mem {ps:List Pt} {p:Pt} (h:p ∈ ps):InHull ps p:=fun _ k=>k p h
theorem InHull.sub {ps qs:List Pt} {p:Pt} (h:InHull ps p) (s:∀ q ∈ ps,InHull qs q):InHull qs p:=fun l k=>h l fun q hq=>s q hq l k
theorem InHull.congr {ps qs:List Pt} {p:Pt} (h:∀ q,q ∈ ps↔q ∈ qs):InHull ps p↔InHull qs p :=
 ⟨fun k=>k.sub fun q hq=>.mem ((h q).mp hq),fun k=>k.sub fun q hq=>.mem ((h q).mpr hq)⟩
theorem corners_hull {ps:List Pt} (h:∀ p ∈ ps,Bd2 p):∀ q ∈ ps,InHull (cornersM ps) q:=fun q hq=>by
 by_cases hc:q ∈ cornersM ps
 ·exact .mem hc
 ·have hS:=uniqP_inc h
  have hqu:=mem_uniqP.mpr hq
  by_cases h2:2≤(uniqP ps).length
  ·obtain ⟨a,z,Lx,Ux,T⟩:=two_of hS h2
   have ha:a ∈ hullR (uniqP ps):=by rw [T.out]; simp
   have hz:z ∈ hullR (uniqP ps):=by rw [T.out]; simp
   have hpa:q ≠ a:=fun e=>hc (by rw [e]; exact ha)
   have hpz:q ≠ z:=fun e=>hc (by rw [e]; exact hz)
   rcases T.holds (fun x y hxy=>T.left hxy q hqu) (fun _=>⟨Int.le_of_lt (T.low q hqu hpa),Int.le_of_lt (T.high q hqu hpz)⟩) with ⟨_,k⟩ | ⟨x,y,hxy,k1,k2,k3,k4⟩
   ·exact fun l hl=>two_nn k (hl a ha) (hl z hz)
   ·have hx:x ∈ hullR (uniqP ps):=by rw [T.out,List.cons_append]; exact List.mem_cons_of_mem _ hxy.mem.1
    have hy:y ∈ hullR (uniqP ps):=by rw [T.out,List.cons_append]; exact List.mem_cons_of_mem _ hxy.mem.2
    refine fun l hl=>three_nn (a:=a) (b:=x) (c:=y) ⟨by omega,.inl ⟨k1,k2,?_⟩⟩ (hl a ha) (hl x hx) (hl y hy)
    rw [turn_swap]; omega
  ·exfalso; apply hc
   unfold cornersM hullR; rw [if_pos (by omega)]; exact hqu
theorem hull_corners {ps:List Pt} (h:∀ p ∈ ps,Bd2 p) {p:Pt}:InHull (cornersM ps) p↔InHull ps p :=
 ⟨fun k=>k.sub fun q hq=>.mem (cornersM_sub h q hq),fun k=>k.sub fun q hq=>corners_hull h q hq⟩
theorem Out.corners {ps:List Pt} (h:∀ p ∈ ps,Bd2 p) {p:Pt} {l:Ln} (k:Out (cornersM ps) p l):Out ps p l:=⟨k.1,fun q hq=>corners_hull h q hq l k.2⟩
def along (a b:Pt):Ln:=(a.2 - b.2,b.1 - a.1,a.1 * b.2 - a.2 * b.1)
def across (a b:Pt):Ln:=(b.1 - a.1,b.2 - a.2,-(b.1 - a.1) * b.1 - (b.2 - a.2) * b.2)
theorem wrt_along (a b p:Pt):wrt (along a b) p = turn a b p:=by unfold wrt along turn; dsimp only; grind
def reachM (a b p:Pt):Int:=(b.1 - a.1) * (p.1 - a.1)+(b.2 - a.2) * (p.2 - a.2)
theorem wrt_across (a b p:Pt):wrt (across a b) p = (b.1 - a.1) * (p.1 - b.1)+(b.2 - a.2) * (p.2 - b.2):=by unfold wrt across; dsimp only; grind
def rot1 (R:List Pt):List Pt:=R.drop 1++R.take 1
def edgesM (R:List Pt):List Ln:=(R.zip (rot1 R)).map fun e=>along e.1 e.2
def frontsM (R:List Pt) (p:Pt):List Ln:=R.map fun e=>across p e
def NoShut (R:List Pt) (p:Pt):Prop:=R ≠ []∧∀ l ∈ edgesM R++frontsM R p,¬ Out R p l
theorem sq_nn (x:Int):0≤x * x:=by
 rcases Int.lt_or_le x 0 with k | k
 ·exact Int.le_of_lt (Int.mul_pos_of_neg_of_neg k k)
 ·exact Int.mul_nonneg k k
theorem sq_pos {x y:Int} (h:x ≠ 0∨y ≠ 0):0 < x * x+y * y:=by
 have hx:=sq_nn x
 have hy:=sq_nn y
 rcases h with h | h
 ·rcases Int.lt_or_lt_of_ne h with k | k
  ·have:=Int.mul_pos_of_neg_of_neg k k; omega
  ·have:=Int.mul_pos k k; omega
 ·rcases Int.lt_or_lt_of_ne h with k | k
  ·have:=Int.mul_pos_of_neg_of_neg k k; omega
  ·have:=Int.mul_pos k k; omega
theorem across_self {p e:Pt} (h:p ≠ e):wrt (across p e) p < 0:=by
 have:(e.1 - p.1) ≠ 0∨(e.2 - p.2) ≠ 0:=by
  rcases Int.lt_trichotomy e.1 p.1 with k | k | k
  ·left; omega
  ·right; intro k2; exact h (Prod.ext (by omega) (by omega))
  ·left; omega
 have:=sq_pos this
 have e2:wrt (across p e) p = -((e.1 - p.1) * (e.1 - p.1)+(e.2 - p.2) * (e.2 - p.2)):=by rw [wrt_across]; grind
 omega
theorem rnd_edge {R:List Pt} {x y:Pt} (h:Rnd R x y):along x y ∈ edgesM R:=by
 unfold edgesM
 refine List.mem_map.mpr ⟨(x,y),?_,rfl⟩
 rcases h with ⟨pre,post,e⟩ | ⟨e1,e2⟩
 ·subst e
  refine List.mem_iff_getElem?.mpr ⟨pre.length,?_⟩
  rw [List.getElem?_zip_eq_some]
  refine ⟨by simp,?_⟩
  unfold rot1
  cases pre with
  | nil=>simp
  | cons c r=>simp
 ·cases R with
  | nil=>simp at e2
  | cons c r =>
   simp at e2; subst e2
   refine List.mem_iff_getElem?.mpr ⟨r.length,?_⟩
   rw [List.getElem?_zip_eq_some]
   refine ⟨?_,?_⟩
   ·rw [List.getLast?_eq_getElem?] at e1; simpa using e1
   ·unfold rot1; simp
theorem NoShut.left {S:List Pt} {p:Pt} {f:Pt} {a z:Pt} {Lx Ux:List Pt} (T:Two f S a z Lx Ux) (h:NoShut (hullR S) p):∀ x y,Rnd (hullR S) x y→0≤turn x y p:=fun x y hxy=>by
 rcases Int.lt_or_le (turn x y p) 0 with k | k
 ·refine absurd ⟨by rw [wrt_along]; exact k,fun q hq=>?_⟩ (h.2 (along x y) (List.mem_append_left _ (rnd_edge hxy)))
  rw [wrt_along]; exact T.left hxy q (T.sub q hq)
 ·exact k
theorem NoShut.front {R:List Pt} {p:Pt} (h:NoShut R p) {e:Pt} (he:e ∈ R) (hp:p ≠ e):∃ q ∈ R,wrt (across p e) q < 0:=by
 refine Classical.byContradiction fun c=>h.2 (across p e) (List.mem_append_right _ (List.mem_map.mpr ⟨e,he,rfl⟩)) ⟨across_self hp,fun q hq=>?_⟩
 rcases Int.lt_or_le (wrt (across p e) q) 0 with k | k
 ·exact absurd ⟨q,hq,k⟩ c
 ·exact k
structure ShOk (R:List Pt) (p:Pt) (sh:List (Pt×Int)):Prop where
 len:sh.length≤3
 nd:(sh.map (·.1)).Nodup
 mem:∀ e ∈ sh,e.1 ∈ R
 nn:∀ e ∈ sh,0≤e.2
 pos:0 < (sh.map (·.2)).sum
 lt:(sh.map (·.2)).sum≤64000000
 x:(sh.map fun e=>e.2 * e.1.1).sum = (sh.map (·.2)).sum * p.1
 y:(sh.map fun e=>e.2 * e.1.2).sum = (sh.map (·.2)).sum * p.2
theorem one_ok {a p:Pt} (h:NoShut [a] p):ShOk [a] p [(a,1)]:=by
 have e:p = a:=by
  refine Classical.byContradiction fun c=>?_
  obtain ⟨q,hq,k⟩:=h.front (e:=a) (by simp) c
  simp at hq; subst hq
  rw [wrt_across] at k; simp at k
 subst e
 exact ⟨by simp,by simp,by simp,by simp,by simp,by simp,by simp,by simp⟩
theorem mul_bound {x y B C:Int} (hx:-B≤x) (hx':x≤B) (hy:-C≤y) (hy':y≤C):x * y≤B * C∧-(B * C)≤x * y:=by
 have h1:0≤(B - x) * (C+y):=Int.mul_nonneg (by omega) (by omega)
 have h2:0≤(B+x) * (C - y):=Int.mul_nonneg (by omega) (by omega)
 have h3:0≤(B - x) * (C - y):=Int.mul_nonneg (by omega) (by omega)
 have h4:0≤(B+x) * (C+y):=Int.mul_nonneg (by omega) (by omega)
 constructor <;> grind
theorem turn_le {a b c:Pt} (ha:Bd2 a) (hb:Bd2 b) (hc:Bd2 c):turn a b c≤32000000:=by
 obtain ⟨a1,a2,a3,a4⟩:=ha
 obtain ⟨b1,b2,b3,b4⟩:=hb
 obtain ⟨c1,c2,c3,c4⟩:=hc
 have h1:=mul_bound (x:=b.1 - a.1) (y:=c.2 - a.2) (B:=4000) (C:=4000) (by omega) (by omega) (by omega) (by omega)
 have h2:=mul_bound (x:=b.2 - a.2) (y:=c.1 - a.1) (B:=4000) (C:=4000) (by omega) (by omega) (by omega) (by omega)
 unfold turn; omega
theorem reach_le {a b c:Pt} (ha:Bd2 a) (hb:Bd2 b) (hc:Bd2 c):reachM a b c≤32000000:=by
 obtain ⟨a1,a2,a3,a4⟩:=ha
 obtain ⟨b1,b2,b3,b4⟩:=hb
 obtain ⟨c1,c2,c3,c4⟩:=hc
 have h1:=mul_bound (x:=b.1 - a.1) (y:=c.1 - a.1) (B:=4000) (C:=4000) (by omega) (by omega) (by omega) (by omega)
 have h2:=mul_bound (x:=b.2 - a.2) (y:=c.2 - a.2) (B:=4000) (C:=4000) (by omega) (by omega) (by omega) (by omega)
 unfold reachM; omega
theorem two_ok {a z p:Pt} {f:Pt} {S:List Pt} (T:Two f S a z [] []) (ba:Bd2 a) (bz:Bd2 z) (h:NoShut [a,z] p) (hR:hullR S = [a,z]) :
  ShOk [a,z] p [(a,reachM a z z - reachM a z p),(z,reachM a z p)]:=by
 have hne:a ≠ z:=fun e=>by have:=T.lt; rw [e] at this; omega
 have hL:=(show NoShut (hullR S) p by rw [hR]; exact h).left T
 rw [hR] at hL
 have t1:=hL a z (.inl ⟨[],[],rfl⟩)
 have t2:=hL z a (.inr ⟨rfl,rfl⟩)
 have ht:turn a z p = 0:=by rw [turn_swap] at t2; omega
 have lz:0 < reachM a z z:=sq_pos (by
  rcases Int.lt_trichotomy z.1 a.1 with k | k | k
  ·left; omega
  ·right; intro k2; exact hne (Prod.ext (by omega) (by omega))
  ·left; omega)
 have na:0≤reachM a z p:=by
  by_cases e:p = a
  ·subst e; unfold reachM; simp
  ·obtain ⟨q,hq,k⟩:=h.front (e:=a) (by simp) e
   simp at hq
   rcases hq with rfl | rfl
   ·rw [wrt_across] at k; simp at k
   ·rw [wrt_across] at k
    have:reachM a q p = -((a.1 - p.1) * (q.1 - a.1)+(a.2 - p.2) * (q.2 - a.2)):=by unfold reachM; grind
    omega
 have nz:0≤reachM a z z - reachM a z p:=by
  by_cases e:p = z
  ·subst e; omega
  ·obtain ⟨q,hq,k⟩:=h.front (e:=z) (by simp) e
   simp at hq
   rcases hq with rfl | rfl
   ·rw [wrt_across] at k
    have:reachM q z z - reachM q z p = -((z.1 - p.1) * (q.1 - z.1)+(z.2 - p.2) * (q.2 - z.2)):=by unfold reachM; grind
    omega
   ·rw [wrt_across] at k; simp at k
 have kx:reachM a z z * (p.1 - a.1) = reachM a z p * (z.1 - a.1):=by
  have e:reachM a z z * (p.1 - a.1) = reachM a z p * (z.1 - a.1) - (z.2 - a.2) * turn a z p:=by unfold reachM turn; grind
  rw [e,ht]; simp
 have ky:reachM a z z * (p.2 - a.2) = reachM a z p * (z.2 - a.2):=by
  have e:reachM a z z * (p.2 - a.2) = reachM a z p * (z.2 - a.2)+(z.1 - a.1) * turn a z p:=by unfold reachM turn; grind
  rw [e,ht]; simp
 have le:=reach_le ba bz bz
 refine ⟨by simp,by simp [hne],by simp,?_,?_,?_,?_,?_⟩
 ·intro e he; simp at he; rcases he with rfl | rfl <;> assumption
 ·simp; omega
 ·simp; omega
 ·simp; grind
 ·simp; grind
theorem three_ok {R:List Pt} {a b c p:Pt} (ha:a ∈ R) (hb:b ∈ R) (hc:c ∈ R) (ba:Bd2 a) (bb:Bd2 b) (bc:Bd2 c) (h:0 < turn a b c) (h1:0≤turn a b p) (h2:0≤turn b c p) (h3:0≤turn c a p) :
  ShOk R p [(a,turn b c p),(b,turn c a p),(c,turn a b p)]:=by
 have n1:a ≠ b:=fun e=>by subst e; rw [turn_aa] at h; omega
 have n2:b ≠ c:=fun e=>by subst e; rw [turn_same'] at h; omega
 have n3:a ≠ c:=fun e=>by subst e; rw [turn_same] at h; omega
 have sm:=three_sum a b c p
 have le:=turn_le ba bb bc
 have ex:=three_eq (1,0,0) a b c p
 have ey:=three_eq (0,1,0) a b c p
 simp only [wrt] at ex ey
 refine ⟨by simp,by simp [n1,n2,n3],?_,?_,?_,?_,?_,?_⟩
 ·intro e he; simp at he; rcases he with rfl | rfl | rfl <;> assumption
 ·intro e he; simp at he; rcases he with rfl | rfl | rfl <;> assumption
 ·simp; omega
 ·simp; omega
 ·simp only [List.map_cons,List.map_nil,List.sum_cons,List.sum_nil]
  have:turn b c p+(turn c a p+(turn a b p+0)) = turn a b c:=by omega
  rw [this]; grind
 ·simp only [List.map_cons,List.map_nil,List.sum_cons,List.sum_nil]
  have:turn b c p+(turn c a p+(turn a b p+0)) = turn a b c:=by omega
  rw [this]; grind
theorem ShOk.line {R:List Pt} {p:Pt} {sh:List (Pt×Int)} (h:ShOk R p sh) (l:Ln):(sh.map fun e=>e.2 * wrt l e.1).sum = (sh.map (·.2)).sum * wrt l p:=by
 have go:∀ sh:List (Pt×Int),(sh.map fun e=>e.2 * wrt l e.1).sum = l.1 * (sh.map fun e=>e.2 * e.1.1).sum+l.2.1 * (sh.map fun e=>e.2 * e.1.2).sum+l.2.2 * (sh.map (·.2)).sum:=fun sh=>by
  induction sh with
  | nil=>simp
  | cons e r ih=>simp only [List.map_cons,List.sum_cons,ih]; unfold wrt; grind
 rw [go,h.x,h.y]; unfold wrt; grind
theorem sum_nn {α:Type} {f:α→Int}:∀ {l:List α},(∀ x ∈ l,0≤f x)→0≤(l.map f).sum
 | [],_=>by simp
 | x :: r,h=>by
  have h1:=h x (by simp)
  have h2:=sum_nn (l:=r) fun y hy=>h y (by simp [hy])
  simp; omega
theorem ShOk.hull {R:List Pt} {p:Pt} {sh:List (Pt×Int)} (h:ShOk R p sh):InHull R p:=fun l k=>by
 have e:=h.line l
 have nn:0≤(sh.map fun e=>e.2 * wrt l e.1).sum:=sum_nn fun e he=>Int.mul_nonneg (h.nn e he) (k e.1 (h.mem e he))
 rw [e] at nn
 exact nonneg_of_mul h.pos nn
end Geo
set_option maxRecDepth 100000
namespace Geo
theorem gcd_step {a b:Int} (ha:0≤a) (hb:0 < b):Int.gcd b (a % b) = Int.gcd a b:=by
 obtain ⟨m,rfl⟩:=Int.eq_ofNat_of_zero_le ha
 obtain ⟨n,rfl⟩:=Int.eq_ofNat_of_zero_le (Int.le_of_lt hb)
 show Nat.gcd n (Int.natAbs ((m:Int) % (n:Int))) = Nat.gcd m n
 rw [← Int.natCast_emod,Int.natAbs_natCast,Nat.gcd_comm m n,Nat.gcd_rec n m,Nat.gcd_comm]
theorem gcd_zero {a:Int} (ha:0≤a):((Int.gcd a 0:Nat):Int) = a:=by simp; omega
theorem gcd_pos {a b:Int} (h:0 < b):0 < Int.gcd a b:=Int.gcd_pos_of_ne_zero_right _ (by omega)
theorem div_le {s g:Int} (hs:0≤s) (hg:0 < g):s / g≤s:=by
 have h1:=Int.ediv_mul_le s (show g ≠ 0 by omega)
 have h0:=Int.ediv_nonneg hs (Int.le_of_lt hg)
 have h2:0≤s / g * (g - 1):=Int.mul_nonneg h0 (by omega)
 have h3:s / g * (g - 1) = s / g * g - s / g:=by rw [Int.mul_sub,Int.mul_one]
 omega
theorem perm_sum {l m:List Int} (h:l.Perm m):l.sum = m.sum:=by
 induction h with
 | nil=>rfl
 | cons x _ ih=>simp [ih]
 | swap x y l=>simp; omega
 | trans _ _ h1 h2=>exact h1.trans h2
theorem sum_filter {α:Type} {f:α→Int} {q:α→Bool}:∀ {l:List α},(∀ x ∈ l,q x = false→f x = 0)→((l.filter q).map f).sum = (l.map f).sum
 | [],_=>rfl
 | x :: r,h=>by
  have ih:=sum_filter (l:=r) fun y hy=>h y (by simp [hy])
  cases e:q x with
  | true=>rw [List.filter_cons_of_pos e]; simp [ih]
  | false =>
   rw [List.filter_cons_of_neg (by simp [e])]
   have:=h x (by simp) e
   simp [ih,this]
abbrev Tri:=Int×Int×Int
def ptAt (ps:List Pt) (n:Int):Pt:=ps.getD n.toNat (0,0)
def wgt (W:Int) (q:Pt):Tri:=(q.1,q.2 / (Int.gcd q.2 W:Nat),W / (Int.gcd q.2 W:Nat))
def weighM (W:Int) (prs:List Pt):List Tri:=(prs.filter fun q=>decide (0 < q.2)).map (wgt W)
structure Acc where
 x:Int
 y:Int
 n:Int
 b:Int
def Acc.step (ps:List Pt) (c:Acc) (t:Tri):Acc:=⟨c.x * t.2.2+(ptAt ps t.1).1 * t.2.1 * c.b,c.y * t.2.2+(ptAt ps t.1).2 * t.2.1 * c.b,c.n * t.2.2+1 * t.2.1 * c.b,c.b * t.2.2⟩
def accM (ps:List Pt) (tri:List Tri):Acc:=tri.foldl (Acc.step ps) ⟨0,0,0,1⟩
structure WOk (ps:List Pt) (tri:List Tri) (spot:Tri):Prop where
 len:1≤tri.length∧tri.length≤3
 part:∀ t ∈ tri,0 < t.2.1∧0 < t.2.2∧Int.gcd t.2.1 t.2.2 = 1∧t.2.1≤64000000∧t.2.2≤64000000
 ix:∀ t ∈ tri,0≤t.1∧t.1 < ps.length
 inc:tri.Pairwise fun s t=>s.1 < t.1
 one:(accM ps tri).n = (accM ps tri).b
 px:(accM ps tri).x * spot.2.2 = spot.1 * (accM ps tri).b
 py:(accM ps tri).y * spot.2.2 = spot.2.1 * (accM ps tri).b
theorem wgt_eq {W:Int} {q:Pt}:(wgt W q).2.1 * W = q.2 * (wgt W q).2.2:=by
 obtain ⟨u,hu⟩:=Int.gcd_dvd_left q.2 W
 obtain ⟨v,hv⟩:=Int.gcd_dvd_right q.2 W
 unfold wgt; dsimp only
 by_cases h:(Int.gcd q.2 W:Int) = 0
 ·rw [h] at hu hv ⊢; simp at hu hv; simp [hu,hv]
 ·have e1:q.2 / (Int.gcd q.2 W:Nat) = u:=Int.ediv_eq_of_eq_mul_right h hu
  have e2:W / (Int.gcd q.2 W:Nat) = v:=Int.ediv_eq_of_eq_mul_right h hv
  rw [e1,e2]
  generalize (Int.gcd q.2 W:Int) = g at *
  rw [hu,hv]; grind
theorem acc_inv {ps:List Pt} {W:Int}:∀ (prs:List Pt) (c:Acc) (X Y N:Int),W * c.x = c.b * X→W * c.y = c.b * Y→W * c.n = c.b * N →
  let d:=(prs.map (wgt W)).foldl (Acc.step ps) c
  W * d.x = d.b * (X+(prs.map fun q=>q.2 * (ptAt ps q.1).1).sum)∧W * d.y = d.b * (Y+(prs.map fun q=>q.2 * (ptAt ps q.1).2).sum)∧W * d.n = d.b * (N+(prs.map fun q=>q.2).sum)
 | [],c,X,Y,N,h1,h2,h3=>by simp; exact ⟨h1,h2,h3⟩
 | q :: r,c,X,Y,N,h1,h2,h3=>by
  have e:=wgt_eq (W:=W) (q:=q)
  have ih:=acc_inv (ps:=ps) (W:=W) r (Acc.step ps c (wgt W q)) (X+q.2 * (ptAt ps q.1).1) (Y+q.2 * (ptAt ps q.1).2) (N+q.2)
   (by unfold Acc.step; dsimp only; rw [show (wgt W q).1 = q.1 from rfl]; grind)
   (by unfold Acc.step; dsimp only; rw [show (wgt W q).1 = q.1 from rfl]; grind)
   (by unfold Acc.step; dsimp only; grind)
  simp only [List.map_cons,List.foldl_cons,List.sum_cons]
  simp only [Int.add_assoc] at ih ⊢
  exact ih
structure PrOk (ps:List Pt) (prs:List Pt) (spot:Tri):Prop where
 len:prs.length≤3
 nd:(prs.map (·.1)).Nodup
 ix:∀ q ∈ prs,0≤q.1∧q.1 < ps.length
 nn:∀ q ∈ prs,0≤q.2
 pos:0 < (prs.map (·.2)).sum
 lt:(prs.map (·.2)).sum≤64000000
 x:(prs.map fun q=>q.2 * (ptAt ps q.1).1).sum * spot.2.2 = spot.1 * (prs.map (·.2)).sum
 y:(prs.map fun q=>q.2 * (ptAt ps q.1).2).sum * spot.2.2 = spot.2.1 * (prs.map (·.2)).sum
theorem le_sum {α:Type} {f:α→Int}:∀ {l:List α},(∀ x ∈ l,0≤f x)→∀ x ∈ l,f x≤(l.map f).sum
 | y :: r,h,x,hx=>by
  have h1:=h y (by simp)
  have h2:=sum_nn (l:=r) fun z hz=>h z (by simp [hz])
  simp only [List.map_cons,List.sum_cons]
  rcases List.mem_cons.mp hx with e | e
  ·subst e; omega
  ·have:=le_sum (l:=r) (fun z hz=>h z (by simp [hz])) x e
   omega
theorem weigh_ok {ps prs:List Pt} {spot:Tri} (h:PrOk ps prs spot):WOk ps (weighM (prs.map (·.2)).sum (sortP prs)) spot:=by
 have pm:=sortP_perm prs
 have mem:∀ q,q ∈ sortP prs↔q ∈ prs:=fun q=>pm.mem_iff
 generalize hW:(prs.map (·.2)).sum = W at *
 have hpos:0 < W:=hW ▸ h.pos
 have hlt:W≤64000000:=hW ▸ h.lt
 have fm:∀ q,q ∈ (sortP prs).filter (fun q=>decide (0 < q.2))↔q ∈ prs∧0 < q.2:=fun q=>by rw [List.mem_filter,mem]; simp
 have z:∀ q ∈ sortP prs,decide (0 < q.2) = false→q.2 = 0:=fun q hq e=>by
  have:=h.nn q ((mem q).mp hq)
  have:¬ 0 < q.2:=of_decide_eq_false e
  omega
 have sN:(((sortP prs).filter fun q=>decide (0 < q.2)).map fun q=>q.2).sum = W:=by
  rw [sum_filter z,perm_sum (pm.map _),hW]
 have sX:(((sortP prs).filter fun q=>decide (0 < q.2)).map fun q=>q.2 * (ptAt ps q.1).1).sum = (prs.map fun q=>q.2 * (ptAt ps q.1).1).sum:=by
  rw [sum_filter fun q hq e=>by rw [z q hq e]; simp,perm_sum (pm.map _)]
 have sY:(((sortP prs).filter fun q=>decide (0 < q.2)).map fun q=>q.2 * (ptAt ps q.1).2).sum = (prs.map fun q=>q.2 * (ptAt ps q.1).2).sum:=by
  rw [sum_filter fun q hq e=>by rw [z q hq e]; simp,perm_sum (pm.map _)]
 obtain ⟨ax,ay,an⟩:=acc_inv (ps:=ps) (W:=W) ((sortP prs).filter fun q=>decide (0 < q.2)) ⟨0,0,0,1⟩ 0 0 0 (by simp) (by simp) (by simp)
 rw [sX,Int.zero_add] at ax
 rw [sY,Int.zero_add] at ay
 rw [sN,Int.zero_add] at an
 have canc:∀ {u v:Int},W * u = W * v→u = v:=fun {u v} e=>Int.eq_of_mul_eq_mul_left (by omega) e
 refine ⟨⟨?_,?_⟩,fun t ht=>?_,fun t ht=>?_,?_,?_,?_,?_⟩
 ·unfold weighM; rw [List.length_map]
  cases e:(sortP prs).filter (fun q=>decide (0 < q.2)) with
  | nil=>rw [e] at sN; simp at sN; omega
  | cons a r=>simp
 ·unfold weighM; rw [List.length_map]
  have h1:=List.length_filter_le (fun q:Pt=>decide (0 < q.2)) (sortP prs)
  rw [sortP_length] at h1
  have:=h.len; omega
 ·obtain ⟨q,hq,rfl⟩:=List.mem_map.mp ht
  obtain ⟨hq,hp⟩:=(fm q).mp hq
  have hg:0 < Int.gcd q.2 W:=gcd_pos hpos
  have hg':(0:Int) < (Int.gcd q.2 W:Nat):=by omega
  have d1:=Int.gcd_dvd_left q.2 W
  have d2:=Int.gcd_dvd_right q.2 W
  have le:=le_sum (f:=fun q:Pt=>q.2) h.nn q hq
  rw [show (prs.map fun q:Pt=>q.2).sum = W from hW] at le
  refine ⟨Int.ediv_pos_of_pos_of_dvd hp (by omega) d1,Int.ediv_pos_of_pos_of_dvd hpos (by omega) d2,Int.gcd_ediv_gcd_ediv_gcd hg,?_,?_⟩
  ·have:=div_le (s:=q.2) (by omega) hg'
   show q.2 / _≤_; omega
  ·have:=div_le (s:=W) (by omega) hg'
   show W / _≤_; omega
 ·obtain ⟨q,hq,rfl⟩:=List.mem_map.mp ht
  exact h.ix q ((fm q).mp hq).1
 ·unfold weighM
  rw [List.pairwise_map]
  have hn:((sortP prs).map (·.1)).Nodup:=(pm.map _).nodup_iff.mpr h.nd
  have h2:(sortP prs).Pairwise fun a b:Pt=>a.1 ≠ b.1:=by
   have:=hn
   unfold List.Nodup at this
   rwa [List.pairwise_map] at this
  refine ((sortP_pw prs).and h2).filter _ |>.imp fun {a b} hab=>?_
  have:=leP_iff.mp hab.1
  have:=hab.2
  show a.1 < b.1
  omega
 ·show (accM ps (weighM W (sortP prs))).n = _
  exact canc (an.trans (Int.mul_comm _ _))
 ·have hx:=h.x
  rw [hW] at hx
  refine canc ?_
  show W * ((accM ps (weighM W (sortP prs))).x * spot.2.2) = W * (spot.1 * (accM ps (weighM W (sortP prs))).b)
  have ax':W * (accM ps (weighM W (sortP prs))).x = (accM ps (weighM W (sortP prs))).b * (prs.map fun q=>q.2 * (ptAt ps q.1).1).sum:=ax
  generalize (accM ps (weighM W (sortP prs))) = c at ax' ⊢
  grind
 ·have hy:=h.y
  rw [hW] at hy
  refine canc ?_
  show W * ((accM ps (weighM W (sortP prs))).y * spot.2.2) = W * (spot.2.1 * (accM ps (weighM W (sortP prs))).b)
  have ay':W * (accM ps (weighM W (sortP prs))).y = (accM ps (weighM W (sortP prs))).b * (prs.map fun q=>q.2 * (ptAt ps q.1).2).sum:=ay
  generalize (accM ps (weighM W (sortP prs))) = c at ay' ⊢
  grind
def idxP (ps:List Pt) (p:Pt):Nat:=ps.findIdx (fun q=>decide (q = p))
theorem idxP_get {ps:List Pt} {p:Pt} (h:p ∈ ps):ps[idxP ps p]? = some p∧∀ i,i < idxP ps p→ps[i]? ≠ some p:=by
 have hl:idxP ps p < ps.length:=List.findIdx_lt_length_of_exists ⟨p,h,by simp⟩
 refine ⟨?_,fun i hi e=>?_⟩
 ·rw [List.getElem?_eq_getElem hl]
  have:decide (ps[idxP ps p] = p) = true:=List.findIdx_getElem (w:=hl)
  rw [of_decide_eq_true this]
 ·obtain ⟨hi',e'⟩:=List.getElem?_eq_some_iff.mp e
  have:=List.not_of_lt_findIdx hi
  simp [e'] at this
theorem ptAt_idx {ps:List Pt} {p:Pt} (h:p ∈ ps):ptAt ps (idxP ps p:Nat) = p:=by
 unfold ptAt
 rw [Int.toNat_natCast,List.getD_eq_getElem?_getD,(idxP_get h).1]; rfl
def prsM (ps:List Pt) (sh:List (Pt×Int)):List Pt:=sh.map fun e=>((idxP ps e.1:Nat),e.2)
theorem pr_ok {ps R:List Pt} {p:Pt} {sh:List (Pt×Int)} (h:ShOk R p sh) (hs:∀ q ∈ R,q ∈ ps):PrOk ps (prsM ps sh) (p.1,p.2,1):=by
 have e2:(prsM ps sh).map (·.2) = sh.map (·.2):=by unfold prsM; rw [List.map_map]; rfl
 have ex:(prsM ps sh).map (fun q=>q.2 * (ptAt ps q.1).1) = sh.map fun e=>e.2 * e.1.1:=by
  unfold prsM; rw [List.map_map]
  refine List.map_congr_left fun e he=>?_
  show e.2 * (ptAt ps (idxP ps e.1:Nat)).1 = _
  rw [ptAt_idx (hs _ (h.mem e he))]
 have ey:(prsM ps sh).map (fun q=>q.2 * (ptAt ps q.1).2) = sh.map fun e=>e.2 * e.1.2:=by
  unfold prsM; rw [List.map_map]
  refine List.map_congr_left fun e he=>?_
  show e.2 * (ptAt ps (idxP ps e.1:Nat)).2 = _
  rw [ptAt_idx (hs _ (h.mem e he))]
 refine ⟨by unfold prsM; rw [List.length_map]; exact h.len,?_,fun q hq=>?_,fun q hq=>?_,by rw [e2]; exact h.pos,by rw [e2]; exact h.lt,?_,?_⟩
 ·unfold prsM; rw [List.map_map]
  have hn:=h.nd
  unfold List.Nodup at hn ⊢
  rw [List.pairwise_map] at hn ⊢
  refine List.Pairwise.imp_of_mem (fun {a b} ha hb k e=>k ?_) hn
  have e':idxP ps a.1 = idxP ps b.1:=by
   have:((idxP ps a.1:Nat):Int) = ((idxP ps b.1:Nat):Int):=e
   omega
  have ga:=(idxP_get (hs _ (h.mem a ha))).1
  have gb:=(idxP_get (hs _ (h.mem b hb))).1
  rw [e',gb] at ga
  exact (Option.some.inj ga).symm
 ·obtain ⟨e,he,rfl⟩:=List.mem_map.mp hq
  have hl:=(List.getElem?_eq_some_iff.mp (idxP_get (hs _ (h.mem e he))).1).1
  dsimp only
  omega
 ·obtain ⟨e,he,rfl⟩:=List.mem_map.mp hq
  exact h.nn e he
 ·rw [ex,e2,h.x]; dsimp only; grind
 ·rw [ey,e2,h.y]; dsimp only; grind
end Geo
set_option maxRecDepth 100000
namespace Geo
def lookP:List Pt→Int→Int
 | [],_=>0
 | q :: r,n=>if q.1 = n then q.2 else lookP r n
def addP:List Pt→Int→Int→List Pt
 | [],n,s=>[(n,0+s)]
 | q :: r,n,s=>if q.1 = n then (q.1,q.2+s) :: r else q :: addP r n s
theorem addP_sum (f:Int→Int) (n s:Int):∀ acc:List Pt,((addP acc n s).map fun q=>q.2 * f q.1).sum = (acc.map fun q=>q.2 * f q.1).sum+s * f n
 | []=>by simp [addP]
 | q :: r=>by
  unfold addP
  by_cases h:q.1 = n
  ·rw [if_pos h]; simp only [List.map_cons,List.sum_cons]; rw [h]; grind
  ·rw [if_neg h]; simp only [List.map_cons,List.sum_cons,addP_sum f n s r]; omega
theorem addP_keys (n s:Int):∀ acc:List Pt,∀ k,k ∈ (addP acc n s).map (·.1)↔k = n∨k ∈ acc.map (·.1)
 | [],k=>by simp [addP]
 | q :: r,k=>by
  unfold addP
  by_cases h:q.1 = n
  ·rw [if_pos h]; simp only [List.map_cons,List.mem_cons,h]
   constructor
   ·intro z; exact .inr z
   ·rintro (z | z)
    ·exact .inl z
    ·exact z
  ·rw [if_neg h]; simp only [List.map_cons,List.mem_cons,addP_keys n s r k]
   constructor
   ·rintro (z | z | z)
    ·exact .inr (.inl z)
    ·exact .inl z
    ·exact .inr (.inr z)
   ·rintro (z | z | z)
    ·exact .inr (.inl z)
    ·exact .inl z
    ·exact .inr (.inr z)
theorem addP_nd (n s:Int):∀ acc:List Pt,(acc.map (·.1)).Nodup→((addP acc n s).map (·.1)).Nodup
 | [],_=>by simp [addP]
 | q :: r,h=>by
  unfold addP
  by_cases e:q.1 = n
  ·rw [if_pos e]; exact h
  ·rw [if_neg e]
   rw [List.map_cons,List.nodup_cons] at h ⊢
   refine ⟨fun z=>?_,addP_nd n s r h.2⟩
   rcases (addP_keys n s r q.1).mp z with z | z
   ·exact e z
   ·exact h.1 z
theorem addP_nn {n s:Int} (hs:0≤s):∀ acc:List Pt,(∀ q ∈ acc,0≤q.2)→∀ q ∈ addP acc n s,0≤q.2
 | [],_,q,hq=>by simp [addP] at hq; rw [hq]; exact hs
 | p :: r,h,q,hq=>by
  unfold addP at hq
  have hp:=h p (by simp)
  by_cases e:p.1 = n
  ·rw [if_pos e] at hq
   rcases List.mem_cons.mp hq with z | z
   ·rw [z]; dsimp only; omega
   ·exact h q (by simp [z])
  ·rw [if_neg e] at hq
   rcases List.mem_cons.mp hq with z | z
   ·rw [z]; exact hp
   ·exact addP_nn hs r (fun q hq=>h q (by simp [hq])) q z
theorem addP_len (n s:Int):∀ acc:List Pt,(addP acc n s).length≤acc.length+1
 | []=>by simp [addP]
 | q :: r=>by
  unfold addP
  by_cases e:q.1 = n
  ·rw [if_pos e]; simp
  ·rw [if_neg e]; have:=addP_len n s r; simp; omega
structure AddOk (prs out:List Pt):Prop where
 nd:(out.map (·.1)).Nodup
 len:out.length≤prs.length
 keys:∀ k,k ∈ out.map (·.1)→k ∈ prs.map (·.1)
 sum:∀ f:Int→Int,(out.map fun q=>q.2 * f q.1).sum = (prs.map fun q=>q.2 * f q.1).sum
 nn:(∀ q ∈ prs,0≤q.2)→∀ q ∈ out,0≤q.2
theorem AddOk.nil:AddOk [] []:=⟨by simp,by simp,by simp,by simp,by simp⟩
theorem AddOk.snoc {prs out:List Pt} (h:AddOk prs out) (q:Pt):AddOk (prs++[q]) (addP out q.1 q.2):=by
 refine ⟨addP_nd _ _ _ h.nd,?_,fun k hk=>?_,fun f=>?_,fun hn p hp=>?_⟩
 ·have:=addP_len q.1 q.2 out; have:=h.len; simp; omega
 ·rcases (addP_keys q.1 q.2 out k).mp hk with z | z
  ·rw [z]; simp
  ·have:=h.keys k z; rw [List.map_append,List.mem_append]; exact .inl this
 ·rw [addP_sum,h.sum,List.map_append,List.sum_append_int]; simp
 ·exact addP_nn (hn q (by simp)) out (h.nn fun r hr=>hn r (by simp [hr])) p hp
theorem AddOk.tot {prs out:List Pt} (h:AddOk prs out):(out.map (·.2)).sum = (prs.map (·.2)).sum:=by
 have:=h.sum fun _=>1
 simpa using this
def gcd3 (t:Tri):Nat:=Int.gcd (Int.gcd t.1 t.2.1:Nat) t.2.2
def lowM (t:Tri):Tri:=(t.1 / (gcd3 t:Nat),t.2.1 / (gcd3 t:Nat),t.2.2 / (gcd3 t:Nat))
theorem gcd3_dvd (t:Tri):((gcd3 t:Nat):Int) ∣ t.1∧((gcd3 t:Nat):Int) ∣ t.2.1∧((gcd3 t:Nat):Int) ∣ t.2.2:=by
 have h1:((gcd3 t:Nat):Int) ∣ ((Int.gcd t.1 t.2.1:Nat):Int):=Int.gcd_dvd_left _ _
 exact ⟨Int.dvd_trans h1 (Int.gcd_dvd_left _ _),Int.dvd_trans h1 (Int.gcd_dvd_right _ _),Int.gcd_dvd_right _ _⟩
theorem lowM_mul (t:Tri):(lowM t).1 * (gcd3 t:Nat) = t.1∧(lowM t).2.1 * (gcd3 t:Nat) = t.2.1∧(lowM t).2.2 * (gcd3 t:Nat) = t.2.2:=by
 obtain ⟨h1,h2,h3⟩:=gcd3_dvd t
 exact ⟨Int.ediv_mul_cancel h1,Int.ediv_mul_cancel h2,Int.ediv_mul_cancel h3⟩
structure SpOk (t:Tri):Prop where
 pos:0 < t.2.2
 low:gcd3 t = 1
theorem lowM_ok {t:Tri} (h:0 < t.2.2):SpOk (lowM t):=by
 have hg:0 < gcd3 t:=gcd_pos h
 have hg':(0:Int) < (gcd3 t:Nat):=by omega
 obtain ⟨d1,d2,d3⟩:=gcd3_dvd t
 refine ⟨Int.ediv_pos_of_pos_of_dvd h (by omega) d3,?_⟩
 have e1:Int.gcd (t.1 / (gcd3 t:Nat)) (t.2.1 / (gcd3 t:Nat)) = Int.gcd t.1 t.2.1 / gcd3 t:=by
  have:=Int.gcd_ediv d1 d2
  rw [this,Int.natAbs_natCast]
 show Int.gcd (Int.gcd (t.1 / (gcd3 t:Nat)) (t.2.1 / (gcd3 t:Nat)):Nat) (t.2.2 / (gcd3 t:Nat)) = 1
 rw [e1,Int.natCast_ediv]
 have h1:((gcd3 t:Nat):Int) ∣ ((Int.gcd t.1 t.2.1:Nat):Int):=Int.gcd_dvd_left _ _
 have:=Int.gcd_ediv h1 d3
 rw [this,Int.natAbs_natCast]
 exact Nat.div_self hg
theorem abs_div_le {s g:Int} (hg:0 < g):-(s.natAbs:Int)≤s / g∧s / g≤(s.natAbs:Int):=by
 have h1:=Int.natAbs_ediv_le_natAbs s g
 omega
structure LineOk (A B:List Pt) (l:Ln):Prop where
 pos:∀ a ∈ A,0 < wrt l a
 neg:∀ b ∈ B,wrt l b < 0
def wS (l:Ln) (t:Tri):Int:=l.1 * t.1+l.2.1 * t.2.1+l.2.2 * t.2.2
def InHullS (ps:List Pt) (t:Tri):Prop:=∀ l:Ln,(∀ q ∈ ps,0≤wrt l q)→0≤wS l t
def subP (a b:Pt):Pt:=(a.1 - b.1,a.2 - b.2)
theorem line_between_ok {A B D:List Pt} {l:Ln} (hD:∀ a ∈ A,∀ b ∈ B,subP a b ∈ D) (h:Out D (0,0) l) {low high:Int} (h1:∃ a ∈ A,low = wrt (l.1,l.2.1,0) a) (h2:∀ a ∈ A,low≤wrt (l.1,l.2.1,0) a)
  (h3:∃ b ∈ B,high = wrt (l.1,l.2.1,0) b) (h4:∀ b ∈ B,wrt (l.1,l.2.1,0) b≤high):LineOk A B (2 * l.1,2 * l.2.1,-low - high):=by
 obtain ⟨a0,ha0,e1⟩:=h1
 obtain ⟨b0,hb0,e2⟩:=h3
 have n:=h.1
 have p:=h.2 _ (hD a0 ha0 b0 hb0)
 have gap:high < low:=by
  unfold wrt subP at *; dsimp only at *; simp at n; grind
 refine ⟨fun a ha=>?_,fun b hb=>?_⟩
 ·have:=h2 a ha
  unfold wrt at *; dsimp only at *; grind
 ·have:=h4 b hb
  unfold wrt at *; dsimp only at *; grind
theorem sum_sub {α:Type} {f g:α→Int}:∀ l:List α,(l.map fun x=>f x - g x).sum = (l.map f).sum - (l.map g).sum
 | []=>by simp
 | x :: r=>by simp [sum_sub r]; omega
abbrev ShN:=(Pt×Pt)×Int
structure ShnOk (A B:List Pt) (shn:List ShN):Prop where
 ix:∀ e ∈ shn,0≤e.1.2.1∧e.1.2.1 < A.length∧0≤e.1.2.2∧e.1.2.2 < B.length∧e.1.1 = subP (ptAt A e.1.2.1) (ptAt B e.1.2.2)
def ones (shn:List ShN):List Pt:=shn.map fun e=>(e.1.2.1,e.2)
def othrs (shn:List ShN):List Pt:=shn.map fun e=>(e.1.2.2,e.2)
theorem spot_ok {A B R:List Pt} {shn:List ShN} {o1 o2:List Pt} (h:ShOk R (0,0) (shn.map fun e=>(e.1.1,e.2))) (hn:ShnOk A B shn) (a1:AddOk (ones shn) o1) (a2:AddOk (othrs shn) o2) :
  let t:Tri:=((o1.map fun q=>q.2 * (ptAt A q.1).1).sum,(o1.map fun q=>q.2 * (ptAt A q.1).2).sum,(o1.map (·.2)).sum)
  0 < t.2.2∧t.2.2≤64000000∧PrOk A o1 (lowM t)∧PrOk B o2 (lowM t):=by
 intro t
 have W1:(o1.map (·.2)).sum = (shn.map (·.2)).sum:=by rw [a1.tot]; unfold ones; rw [List.map_map]; rfl
 have W2:(o2.map (·.2)).sum = (shn.map (·.2)).sum:=by rw [a2.tot]; unfold othrs; rw [List.map_map]; rfl
 have Wsh:((shn.map fun e=>(e.1.1,e.2)).map (·.2)).sum = (shn.map (·.2)).sum:=by rw [List.map_map]; rfl
 have pos:0 < (shn.map (·.2)).sum:=by rw [← Wsh]; exact h.pos
 have lt:(shn.map (·.2)).sum≤64000000:=by rw [← Wsh]; exact h.lt
 have nn:∀ e ∈ shn,0≤e.2:=fun e he=>h.nn (e.1.1,e.2) (List.mem_map.mpr ⟨e,he,rfl⟩)
 have X1:(o1.map fun q=>q.2 * (ptAt A q.1).1).sum = (shn.map fun e=>e.2 * (ptAt A e.1.2.1).1).sum:=by rw [a1.sum fun n=>(ptAt A n).1]; unfold ones; rw [List.map_map]; rfl
 have Y1:(o1.map fun q=>q.2 * (ptAt A q.1).2).sum = (shn.map fun e=>e.2 * (ptAt A e.1.2.1).2).sum:=by rw [a1.sum fun n=>(ptAt A n).2]; unfold ones; rw [List.map_map]; rfl
 have X2:(o2.map fun q=>q.2 * (ptAt B q.1).1).sum = (shn.map fun e=>e.2 * (ptAt B e.1.2.2).1).sum:=by rw [a2.sum fun n=>(ptAt B n).1]; unfold othrs; rw [List.map_map]; rfl
 have Y2:(o2.map fun q=>q.2 * (ptAt B q.1).2).sum = (shn.map fun e=>e.2 * (ptAt B e.1.2.2).2).sum:=by rw [a2.sum fun n=>(ptAt B n).2]; unfold othrs; rw [List.map_map]; rfl
 have zx:(shn.map fun e=>e.2 * (ptAt A e.1.2.1).1).sum = (shn.map fun e=>e.2 * (ptAt B e.1.2.2).1).sum:=by
  have z:=h.x
  rw [List.map_map] at z
  have e:(shn.map ((fun e:Pt×Int=>e.2 * e.1.1) ∘ fun e:ShN=>(e.1.1,e.2))) = shn.map fun e=>e.2 * (ptAt A e.1.2.1).1 - e.2 * (ptAt B e.1.2.2).1:=by
   refine List.map_congr_left fun e he=>?_
   have:=(hn.ix e he).2.2.2.2
   show e.2 * e.1.1.1 = _
   rw [this]; unfold subP; dsimp only; grind
  rw [e,sum_sub] at z
  simp at z; omega
 have zy:(shn.map fun e=>e.2 * (ptAt A e.1.2.1).2).sum = (shn.map fun e=>e.2 * (ptAt B e.1.2.2).2).sum:=by
  have z:=h.y
  rw [List.map_map] at z
  have e:(shn.map ((fun e:Pt×Int=>e.2 * e.1.2) ∘ fun e:ShN=>(e.1.1,e.2))) = shn.map fun e=>e.2 * (ptAt A e.1.2.1).2 - e.2 * (ptAt B e.1.2.2).2:=by
   refine List.map_congr_left fun e he=>?_
   have:=(hn.ix e he).2.2.2.2
   show e.2 * e.1.1.2 = _
   rw [this]; unfold subP; dsimp only; grind
  rw [e,sum_sub] at z
  simp at z; omega
 have tw:t.2.2 = (shn.map (·.2)).sum:=W1
 obtain ⟨m1,m2,m3⟩:=lowM_mul t
 have hlen:shn.length≤3:=by have:=h.len; simpa using this
 have gpos:(0:Int) < (gcd3 t:Nat):=by have:=gcd_pos (a:=((Int.gcd t.1 t.2.1:Nat):Int)) (b:=t.2.2) (by rw [tw]; exact pos); unfold gcd3; omega
 have canc:∀ {u v:Int},(gcd3 t:Nat) * u = (gcd3 t:Nat) * v→u = v:=fun {u v} e=>Int.eq_of_mul_eq_mul_left (by omega) e
 have t1:t.1 = (o1.map fun q=>q.2 * (ptAt A q.1).1).sum:=rfl
 have t2:t.2.1 = (o1.map fun q=>q.2 * (ptAt A q.1).2).sum:=rfl
 have t3:t.2.2 = (o1.map (·.2)).sum:=rfl
 refine ⟨by rw [tw]; exact pos,by rw [tw]; exact lt,⟨?_,a1.nd,fun q hq=>?_,a1.nn ?_,?_,?_,?_,?_⟩,⟨?_,a2.nd,fun q hq=>?_,a2.nn ?_,?_,?_,?_,?_⟩⟩
 ·have:=a1.len; unfold ones at this; rw [List.length_map] at this; omega
 ·have:=a1.keys q.1 (List.mem_map.mpr ⟨q,hq,rfl⟩)
  unfold ones at this; rw [List.map_map] at this
  obtain ⟨e,he,hk⟩:=List.mem_map.mp this
  have i:=hn.ix e he
  have hk':e.1.2.1 = q.1:=hk
  omega
 ·intro q hq
  obtain ⟨e,he,rfl⟩:=List.mem_map.mp hq
  exact nn e he
 ·rw [W1]; exact pos
 ·rw [W1]; exact lt
 ·rw [← t1,← t3]; exact canc (by grind)
 ·rw [← t2,← t3]; exact canc (by grind)
 ·have:=a2.len; unfold othrs at this; rw [List.length_map] at this; omega
 ·have:=a2.keys q.1 (List.mem_map.mpr ⟨q,hq,rfl⟩)
  unfold othrs at this; rw [List.map_map] at this
  obtain ⟨e,he,hk⟩:=List.mem_map.mp this
  have i:=hn.ix e he
  have hk':e.1.2.2 = q.1:=hk
  omega
 ·intro q hq
  obtain ⟨e,he,rfl⟩:=List.mem_map.mp hq
  exact nn e he
 ·rw [W2]; exact pos
 ·rw [W2]; exact lt
 ·rw [X2,← zx,← X1,W2,← W1,← t1,← t3]; exact canc (by grind)
 ·rw [Y2,← zy,← Y1,W2,← W1,← t2,← t3]; exact canc (by grind)
theorem PrOk.hull {A prs:List Pt} {t:Tri} (h:PrOk A prs t) (ht:0 < t.2.2):InHullS A t:=fun l k=>by
 have go:∀ prs:List Pt,(prs.map fun q=>q.2 * wrt l (ptAt A q.1)).sum = l.1 * (prs.map fun q=>q.2 * (ptAt A q.1).1).sum+l.2.1 * (prs.map fun q=>q.2 * (ptAt A q.1).2).sum+l.2.2 * (prs.map (·.2)).sum:=fun prs=>by
  induction prs with
  | nil=>simp
  | cons e r ih=>simp only [List.map_cons,List.sum_cons,ih]; unfold wrt; grind
 have nn:0≤(prs.map fun q=>q.2 * wrt l (ptAt A q.1)).sum:=sum_nn fun q hq=>by
  obtain ⟨i1,i2⟩:=h.ix q hq
  refine Int.mul_nonneg (h.nn q hq) (k _ ?_)
  unfold ptAt
  have hk:q.1.toNat < A.length:=by omega
  rw [List.getD_eq_getElem?_getD,List.getElem?_eq_getElem hk]; exact List.getElem_mem hk
 rw [go] at nn
 have hx:=h.x
 have hy:=h.y
 have hp:=h.pos
 generalize (prs.map fun q=>q.2 * (ptAt A q.1).1).sum = X at *
 generalize (prs.map fun q=>q.2 * (ptAt A q.1).2).sum = Y at *
 generalize (prs.map (·.2)).sum = W at *
 have e:W * wS l t = (l.1 * X+l.2.1 * Y+l.2.2 * W) * t.2.2:=by unfold wS; grind
 have:=Int.mul_nonneg nn (Int.le_of_lt ht)
 rw [← e] at this
 exact nonneg_of_mul hp this
end Geo
namespace STab
open PySem
def Rising (xs:Array Nat):Prop:=∀ (i j a b:Nat),i < j→xs[i]? = some a→xs[j]? = some b→a < b
theorem below_go {xs:Array Nat} (hr:Rising xs) (j:Nat):∀ fuel lo hi,lo≤hi→hi≤xs.size→hi - lo≤fuel→(∀ i a,i < lo→xs[i]? = some a→a < j)→(∀ i a,hi≤i→xs[i]? = some a→j≤a) →
  SetTable.below.go xs j fuel lo hi≤xs.size∧(∀ i a,i < SetTable.below.go xs j fuel lo hi→xs[i]? = some a→a < j)∧∀ i a,SetTable.below.go xs j fuel lo hi≤i→xs[i]? = some a→j≤a
 | 0,lo,hi,h1,h2,h3,hl,hh=>by
  have e:lo = hi:=by omega
  subst e
  exact ⟨h2,hl,hh⟩
 | fuel+1,lo,hi,h1,h2,h3,hl,hh=>by
  unfold SetTable.below.go
  by_cases h:lo < hi
  ·rw [if_pos h]
   have hm:(lo+hi) / 2 < xs.size:=by omega
   have hg:xs.getD ((lo+hi) / 2) j = xs[(lo+hi) / 2]:=by simp [Array.getD,hm]
   have hs:xs[(lo+hi) / 2]? = some xs[(lo+hi) / 2]:=by simp [hm]
   dsimp only
   rw [hg]
   by_cases hc:xs[(lo+hi) / 2] < j
   ·rw [if_pos hc]
    refine below_go hr j fuel _ hi (by omega) h2 (by omega) (fun i a hi' e=>?_) hh
    by_cases hq:i = (lo+hi) / 2
    ·subst hq; rw [hs] at e; cases e; exact hc
    ·exact Nat.lt_trans (hr i _ a _ (by omega) e hs) hc
   ·rw [if_neg hc]
    refine below_go hr j fuel lo _ (by omega) (by omega) (by omega) hl (fun i a hi' e=>?_)
    by_cases hq:i = (lo+hi) / 2
    ·subst hq; rw [hs] at e; cases e; omega
    ·have:=hr _ i _ a (by omega) hs e
     omega
  ·rw [if_neg h]
   have e:lo = hi:=by omega
   subst e
   exact ⟨h2,hl,hh⟩
theorem below_spec {xs:Array Nat} (hr:Rising xs) (j:Nat):SetTable.below xs j≤xs.size∧(∀ i a,i < SetTable.below xs j→xs[i]? = some a→a < j)∧∀ i a,SetTable.below xs j≤i→xs[i]? = some a→j≤a :=
 below_go hr j xs.size 0 xs.size (Nat.zero_le _) (Nat.le_refl _) (by omega) (fun i a h=>by omega) (fun i a h e=>by have:=(Array.getElem?_eq_some_iff.mp e).1; omega)
variable {α:Type}
def occ (M:Nat→Option α) (n:Nat):List Nat:=(List.range n).filter fun j=>(M j).isSome
def ent (M:Nat→Option α) (n:Nat):List α:=(List.range n).filterMap M
theorem occ_succ (M:Nat→Option α) (n:Nat):occ M (n+1) = occ M n++(if (M n).isSome then [n] else []):=by
 unfold occ; rw [List.range_succ,List.filter_append]
 congr 1
 by_cases h:(M n).isSome = true
 ·simp [h]
 ·simp [h]
theorem ent_succ (M:Nat→Option α) (n:Nat):ent M (n+1) = ent M n++(M n).toList:=by
 unfold ent; rw [List.range_succ,List.filterMap_append]
 congr 1
theorem occ_length (M:Nat→Option α):∀ n,(occ M n).length = (ent M n).length
 | 0=>rfl
 | n+1=>by
  rw [occ_succ,ent_succ,List.length_append,List.length_append,occ_length M n]
  cases h:M n <;> simp
theorem occ_mem {M:Nat→Option α} {n j:Nat}:j ∈ occ M n↔j < n∧(M j).isSome = true:=by unfold occ; simp
theorem occ_rising (M:Nat→Option α) (n:Nat):(occ M n).Pairwise (· < ·):=by
 unfold occ; exact List.Pairwise.filter _ List.pairwise_lt_range
theorem occ_split {M:Nat→Option α} {n j:Nat} {x:α} (hj:j < n) (hx:M j = some x):∃ post post',occ M n = occ M j++j :: post∧ent M n = ent M j++x :: post':=by
 induction n with
 | zero=>omega
 | succ n ih =>
  rw [occ_succ,ent_succ]
  by_cases h:j = n
  ·subst h
   refine ⟨[],[],?_,?_⟩
   ·rw [hx]; rfl
   ·rw [hx]; rfl
  ·obtain ⟨p,p',h1,h2⟩:=ih (by omega)
   exact ⟨p++(if (M n).isSome then [n] else []),p'++(M n).toList,by rw [h1]; simp,by rw [h2]; simp⟩
theorem rising_of {l:List Nat} (h:l.Pairwise (· < ·)):Rising l.toArray:=fun i j a b hij ha hb=>by
 simp at ha hb
 obtain ⟨h1,e1⟩:=List.getElem?_eq_some_iff.mp ha
 obtain ⟨h2,e2⟩:=List.getElem?_eq_some_iff.mp hb
 subst e1 e2
 exact List.pairwise_iff_getElem.mp h i j h1 h2 hij
theorem below_occ (M:Nat→Option α) {n j:Nat} (hj:j≤n):SetTable.below (occ M n).toArray j = (occ M j).length:=by
 obtain ⟨h1,h2,h3⟩:=below_spec (rising_of (occ_rising M n)) j
 have pre:∃ post,occ M n = occ M j++post∧∀ k ∈ post,j≤k:=by
  clear h1 h2 h3
  induction n with
  | zero=>exact ⟨[],by rw [show j = 0 by omega]; simp,by simp⟩
  | succ n ih =>
   by_cases h:j = n+1
   ·subst h; exact ⟨[],by simp,by simp⟩
   ·obtain ⟨p,hp,hk⟩:=ih (by omega)
    refine ⟨p++(if (M n).isSome then [n] else []),by rw [occ_succ,hp]; simp,fun k hk'=>?_⟩
    rcases List.mem_append.mp hk' with z | z
    ·exact hk k z
    ·by_cases hc:(M n).isSome
     ·simp [hc] at z; omega
     ·simp [hc] at z
 obtain ⟨post,hp,hk⟩:=pre
 rcases Nat.lt_trichotomy (SetTable.below (occ M n).toArray j) (occ M j).length with c | c | c
 ·exfalso
  have g:(occ M n).toArray[SetTable.below (occ M n).toArray j]? = some (occ M j)[SetTable.below (occ M n).toArray j]:=by
   rw [List.getElem?_toArray]
   conv=>lhs; lhs; rw [hp]
   rw [List.getElem?_append_left c]
   exact List.getElem?_eq_getElem c
  have:=h3 _ _ (Nat.le_refl _) g
  have hm:(occ M j)[SetTable.below (occ M n).toArray j] ∈ occ M j:=List.getElem_mem c
  have:=(occ_mem.mp hm).1
  omega
 ·exact c
 ·exfalso
  have sz:(occ M j).length < (occ M n).length:=by
   have:SetTable.below (occ M n).toArray j≤(occ M n).length:=by simpa using h1
   omega
  rw [hp,List.length_append] at sz
  have hq:0 < post.length:=by omega
  have g:(occ M n).toArray[(occ M j).length]? = some post[0]:=by
   rw [List.getElem?_toArray,hp,List.getElem?_append_right (Nat.le_refl _),Nat.sub_self]
   exact List.getElem?_eq_getElem hq
  have:=h2 _ _ c g
  have:=hk post[0] (List.getElem_mem hq)
  omega
structure Rep (t:SetTable) (es:Array α) (M:Nat→Option α):Prop where
 pl:t.place = (occ M (t.mask+1)).toArray
 es:es = (ent M (t.mask+1)).toArray
 dm:t.dummies = #[]
theorem Rep.size {t:SetTable} {es:Array α} {M:Nat→Option α} (R:Rep t es M):t.place.size = es.size:=by
 rw [R.pl,R.es]; simp [occ_length]
theorem has_nil (j:Nat):SetTable.has #[] j = false:=by
 unfold SetTable.has SetTable.below SetTable.below.go
 simp
theorem Rep.slot_none {t:SetTable} {es:Array α} {M:Nat→Option α} (R:Rep t es M) {j:Nat} (hj:j≤t.mask) (h:M j = none):t.slot j = .empty:=by
 unfold SetTable.slot
 have e:¬ t.place[SetTable.below t.place j]? = some j:=fun q=>by
  rw [R.pl] at q
  have hm:=Array.mem_of_getElem? q
  have:=(occ_mem.mp (by simpa using hm)).2
  rw [h] at this; simp at this
 rw [R.dm]
 simp [e,has_nil]
theorem Rep.slot_some {t:SetTable} {es:Array α} {M:Nat→Option α} (R:Rep t es M) {j:Nat} (hj:j≤t.mask) {x:α} (h:M j = some x):t.slot j = .live (occ M j).length∧es[(occ M j).length]? = some x:=by
 obtain ⟨post,post',h1,h2⟩:=occ_split (n:=t.mask+1) (by omega) h
 have b:SetTable.below t.place j = (occ M j).length:=by rw [R.pl]; exact below_occ M (by omega)
 constructor
 ·unfold SetTable.slot
  have e:t.place[SetTable.below t.place j]? = some j:=by
   rw [b,R.pl,h1]; simp
  have e2:(t.place[SetTable.below t.place j]? == some j) = true:=by rw [e]; simp
  dsimp only
  rw [if_pos e2,b]
 ·rw [R.es,h2,occ_length]; simp
def setM (M:Nat→Option α) (j:Nat) (x:α):Nat→Option α:=fun k=>if k = j then some x else M k
theorem occ_congr {M N:Nat→Option α} {n:Nat} (h:∀ k,k < n→M k = N k):occ M n = occ N n:=by
 unfold occ; exact List.filter_congr fun k hk=>by rw [h k (by simpa using hk)]
theorem ent_congr {M N:Nat→Option α} {n:Nat} (h:∀ k,k < n→M k = N k):ent M n = ent N n:=by
 induction n with
 | zero=>rfl
 | succ n ih=>rw [ent_succ,ent_succ,ih fun k hk=>h k (by omega),h n (by omega)]
theorem put_split {M:Nat→Option α} {n j:Nat} (x:α) (hj:j < n) (h:M j = none):∃ post post',occ M n = occ M j++post∧ent M n = ent M j++post'∧occ (setM M j x) n = occ M j++j :: post∧ent (setM M j x) n = ent M j++x :: post':=by
 induction n with
 | zero=>omega
 | succ n ih =>
  by_cases e:j = n
  ·subst e
   have c1:occ (setM M j x) j = occ M j:=occ_congr fun k hk=>by unfold setM; rw [if_neg (by omega)]
   have c2:ent (setM M j x) j = ent M j:=ent_congr fun k hk=>by unfold setM; rw [if_neg (by omega)]
   have c3:setM M j x j = some x:=by unfold setM; rw [if_pos rfl]
   refine ⟨[],[],?_,?_,?_,?_⟩
   ·rw [occ_succ,h]; simp
   ·rw [ent_succ,h]; simp
   ·rw [occ_succ,c1,c3]; simp
   ·rw [ent_succ,c2,c3]; simp
  ·obtain ⟨p,p',h1,h2,h3,h4⟩:=ih (by omega)
   have c3:setM M j x n = M n:=by unfold setM; rw [if_neg (by omega)]
   refine ⟨p++(if (M n).isSome then [n] else []),p'++(M n).toList,?_,?_,?_,?_⟩
   ·rw [occ_succ,h1]; simp
   ·rw [ent_succ,h2]; simp
   ·rw [occ_succ,h3,c3]; simp
   ·rw [ent_succ,h4,c3]; simp
theorem insertAt_list {β:Type} (a b:List β) (x:β):SetTable.insertAt (a++b).toArray a.length x = (a++x :: b).toArray:=by
 unfold SetTable.insertAt
 apply Array.toList_inj.mp
 simp
theorem Rep.put {t:SetTable} {es:Array α} {M:Nat→Option α} (R:Rep t es M) {j:Nat} (hj:j≤t.mask) (h:M j = none) (x:α) :
  Rep (t.put j).1 (SetTable.insertAt es (t.put j).2 x) (setM M j x)∧(t.put j).1.mask = t.mask∧(t.put j).1.led = t.led∧(t.put j).1.plain = t.plain:=by
 obtain ⟨p,p',h1,h2,h3,h4⟩:=put_split (n:=t.mask+1) x (by omega) h
 have b:SetTable.below t.place j = (occ M j).length:=by rw [R.pl]; exact below_occ M (by omega)
 refine ⟨⟨?_,?_,?_⟩,rfl,rfl,rfl⟩
 ·show SetTable.insertAt t.place (SetTable.below t.place j) j = _
  rw [b,R.pl,h1,insertAt_list]
  show _ = (occ (setM M j x) (t.mask+1)).toArray
  rw [h3]
 ·show SetTable.insertAt es (SetTable.below t.place j) x = _
  rw [b,R.es,h2,occ_length,insertAt_list]
  show _ = (ent (setM M j x) (t.mask+1)).toArray
  rw [h4]
 ·show (if SetTable.has t.dummies j = true then _ else t.dummies) = #[]
  rw [R.dm,has_nil]; rfl
def lpN (mask h:Nat):Nat→Nat×Nat
 | 0=>(h % (mask+1),h)
 | n+1=>SetTable.leap mask (lpN mask h n).1 (lpN mask h n).2
theorem lpN_lt (mask h:Nat):∀ n,(lpN mask h n).1 < mask+1
 | 0=>Nat.mod_lt _ (by omega)
 | n+1=>Nat.mod_lt _ (by omega)
theorem lpN_pt (mask h:Nat):∀ n,(lpN mask h n).2 = h / 32 ^ n
 | 0=>by simp [lpN]
 | n+1=>by
  show (lpN mask h n).2 / 32 = _
  rw [lpN_pt mask h n,Nat.div_div_eq_div_mul,Nat.pow_succ]
def lcg (mask:Nat):Nat→Nat→Nat
 | 0,i=>i
 | n+1,i=>(lcg mask n i * 5+1) % (mask+1)
theorem lpN_far (mask h:Nat) (hh:h < 2 ^ 64):∀ m,(lpN mask h (13+m)).1 = lcg mask m (lpN mask h 13).1
 | 0=>rfl
 | m+1=>by
  show ((lpN mask h (13+m)).1 * 5+1+(lpN mask h (13+m)).2 / 32) % (mask+1) = (lcg mask m (lpN mask h 13).1 * 5+1) % (mask+1)
  have z:(lpN mask h (13+m)).2 = 0:=by
   rw [lpN_pt]
   refine Nat.div_eq_of_lt (Nat.lt_of_lt_of_le hh ?_)
   calc 2 ^ 64≤32 ^ 13:=by decide
    _≤32 ^ (13+m):=Nat.pow_le_pow_right (by decide) (by omega)
  rw [lpN_far mask h hh m,z]
theorem lcg7:∀ i,i < 8→∀ j,j < 8→∃ m,m < 8∧lcg 7 m i = j:=by decide
theorem lcg31:∀ i,i < 32→∀ j,j < 32→∃ m,m < 32∧lcg 31 m i = j:=by decide +kernel
def Good (mask:Nat):Prop:=mask = 7∨mask = 31
theorem cover {mask h j:Nat} (hm:Good mask) (hh:h < 2 ^ 64) (hj:j≤mask):∃ n,n≤mask+13∧(lpN mask h n).1 = j:=by
 rcases hm with rfl | rfl
 ·obtain ⟨m,h1,h2⟩:=lcg7 _ (lpN_lt 7 h 13) j (by omega)
  exact ⟨13+m,by omega,by rw [lpN_far 7 h hh]; exact h2⟩
 ·obtain ⟨m,h1,h2⟩:=lcg31 _ (lpN_lt 31 h 13) j (by omega)
  exact ⟨13+m,by omega,by rw [lpN_far 31 h hh]; exact h2⟩
theorem runEnd_le {mask i:Nat} (h:i≤mask):i≤SetTable.runEnd mask i∧SetTable.runEnd mask i≤mask∧SetTable.runEnd mask i≤i+9:=by
 unfold SetTable.runEnd; split <;> omega
structure Way where
 n:Nat
 k:Nat
def Way.at (mask h:Nat) (w:Way):Nat:=(lpN mask h w.n).1+w.k
def Way.ok (mask h:Nat) (w:Way):Prop:=(lpN mask h w.n).1+w.k≤SetTable.runEnd mask (lpN mask h w.n).1
def Way.lt (a b:Way):Prop:=a.n < b.n∨(a.n = b.n∧a.k < b.k)
def Way.next (mask h:Nat) (w:Way):Way:=if (lpN mask h w.n).1+w.k < SetTable.runEnd mask (lpN mask h w.n).1 then ⟨w.n,w.k+1⟩ else ⟨w.n+1,0⟩
theorem Way.next_ok {mask h:Nat} {w:Way}:(w.next mask h).ok mask h:=by
 unfold Way.next Way.ok
 split
 ·show (lpN mask h w.n).1+(w.k+1)≤SetTable.runEnd mask (lpN mask h w.n).1; omega
 ·exact (runEnd_le (Nat.le_of_lt_succ (lpN_lt mask h _))).1
theorem Way.at_le {mask h:Nat} {w:Way} (o:w.ok mask h):w.at mask h≤mask:=by
 unfold Way.ok at o; unfold Way.at
 have:=(runEnd_le (Nat.le_of_lt_succ (lpN_lt mask h w.n))).2.1
 omega
theorem Way.lt_next {mask h:Nat} {a w:Way} (ha:a.ok mask h) (hlt:a.lt (w.next mask h)):a.lt w∨a = w:=by
 unfold Way.next at hlt
 unfold Way.ok at ha
 split at hlt
 ·rcases hlt with z | ⟨z1,z2⟩
  ·exact .inl (.inl z)
  ·have z1':a.n = w.n:=z1
   have z2':a.k < w.k+1:=z2
   by_cases e:a.k = w.k
   ·right; cases a; cases w; simp at z1' e; subst z1' e; rfl
   ·exact .inl (.inr ⟨z1',by omega⟩)
 ·rename_i hn
  rcases hlt with z | ⟨z1,z2⟩
  ·have z':a.n < w.n+1:=z
   by_cases e:a.n = w.n
   ·rw [e] at ha
    by_cases e2:a.k = w.k
    ·right; cases a; cases w; simp at e e2; subst e e2; rfl
    ·exact .inl (.inr ⟨e,by omega⟩)
   ·exact .inl (.inl (by omega))
  ·exact absurd z2 (Nat.not_lt_zero _)
def Way.probe (mask h:Nat) (w:Way):SetTable.Probe:=⟨w.at mask h,SetTable.runEnd mask (lpN mask h w.n).1 - (w.at mask h),(lpN mask h w.n).1,(lpN mask h w.n).2,none⟩
theorem probe_next {t:SetTable} {h:Nat} {w:Way} (o:w.ok t.mask h):t.advance (w.probe t.mask h) = (w.next t.mask h).probe t.mask h:=by
 unfold SetTable.advance Way.next
 unfold Way.ok at o
 by_cases c:(lpN t.mask h w.n).1+w.k < SetTable.runEnd t.mask (lpN t.mask h w.n).1
 ·rw [if_pos (by show SetTable.runEnd t.mask (lpN t.mask h w.n).1 - ((lpN t.mask h w.n).1+w.k) > 0; omega),if_pos c]
  unfold Way.probe Way.at
  simp only [SetTable.Probe.mk.injEq,and_true,true_and]
  omega
 ·rw [if_neg (by show ¬ SetTable.runEnd t.mask (lpN t.mask h w.n).1 - ((lpN t.mask h w.n).1+w.k) > 0; omega),if_neg c]
  rfl
theorem bits_lt (h:Int):SetTable.bits h < 2 ^ 64:=by
 unfold SetTable.bits; omega
theorem Way.tri (a b:Way):a.lt b∨a = b∨b.lt a:=by
 rcases Nat.lt_trichotomy a.n b.n with h | h | h
 ·exact .inl (.inl h)
 ·rcases Nat.lt_trichotomy a.k b.k with k | k | k
  ·exact .inl (.inr ⟨h,k⟩)
  ·right; left; cases a; cases b; simp at h k; subst h k; rfl
  ·exact .inr (.inr (.inr ⟨h.symm,k⟩))
 ·exact .inr (.inr (.inl h))
theorem Way.k_le {mask h:Nat} {w:Way} (o:w.ok mask h):w.k≤9:=by
 unfold Way.ok at o
 have:=(runEnd_le (Nat.le_of_lt_succ (lpN_lt mask h w.n))).2.2
 omega
def Way.upto (n0:Nat) (w:Way):Prop:=w.n < n0∨w = ⟨n0,0⟩
def Way.left (n0:Nat) (w:Way):Nat:=10 * (n0+1 - w.n) - w.k
theorem Way.upto_next {mask h n0:Nat} {w:Way} (u:w.upto n0) (hne:w ≠ ⟨n0,0⟩) (o:w.ok mask h):(w.next mask h).upto n0∧(w.next mask h).left n0 < w.left n0:=by
 have hn:w.n < n0:=by rcases u with z | z; exact z; exact absurd z hne
 have hk:=Way.k_le o
 unfold Way.next Way.upto Way.left
 split
 ·rename_i c
  refine ⟨.inl hn,?_⟩
  have hk2:w.k+1≤9:=by
   have:=(runEnd_le (Nat.le_of_lt_succ (lpN_lt mask h w.n))).2.2
   omega
  show 10 * (n0+1 - w.n) - (w.k+1) < 10 * (n0+1 - w.n) - w.k
  omega
 ·refine ⟨?_,?_⟩
  ·by_cases e:w.n+1 < n0
   ·exact .inl e
   ·right; rw [show w.n+1 = n0 by omega]
  ·show 10 * (n0+1 - (w.n+1)) - 0 < 10 * (n0+1 - w.n) - w.k
   omega
abbrev En (β:Type):=Int×β
def Reach {β:Type} (mask:Nat) (M:Nat→Option (En β)):Prop:=∀ j e,j≤mask→M j = some e→∃ w:Way,w.ok mask (SetTable.bits e.1)∧w.at mask (SetTable.bits e.1) = j∧∀ w':Way,w'.ok mask (SetTable.bits e.1)→w'.lt w→(M (w'.at mask (SetTable.bits e.1))).isSome = true
theorem probe_go {β:Type} {t:SetTable} {es:Array (En β)} {M:Nat→Option (En β)} (R:Rep t es M) {hashAt:Nat→Int} (hA:∀ i e,es[i]? = some e→hashAt i = e.1) {h:Int} {n0:Nat}
    (hz:M ((⟨n0,0⟩:Way).at t.mask (SetTable.bits h)) = none):∀ (fuel:Nat) (w:Way),w.ok t.mask (SetTable.bits h)→w.upto n0→w.left n0≤fuel →
    ∃ w2:Way,w2.ok t.mask (SetTable.bits h)∧w2.upto n0∧w2.left n0≤w.left n0∧(∀ w':Way,w'.ok t.mask (SetTable.bits h)→w'.lt w2→w'.lt w∨∃ e,M (w'.at t.mask (SetTable.bits h)) = some e∧e.1 ≠ h) ∧
      ((M (w2.at t.mask (SetTable.bits h)) = none∧SetTable.probe.go t hashAt h fuel (w.probe t.mask (SetTable.bits h)) = some (.empty (w2.at t.mask (SetTable.bits h)) none)) ∨
       ∃ e i,M (w2.at t.mask (SetTable.bits h)) = some e∧e.1 = h∧es[i]? = some e∧t.slot (w2.at t.mask (SetTable.bits h)) = .live i ∧
         SetTable.probe.go t hashAt h fuel (w.probe t.mask (SetTable.bits h)) = some (.candidate (w2.at t.mask (SetTable.bits h)) i ((w2.next t.mask (SetTable.bits h)).probe t.mask (SetTable.bits h))))
  | 0,w,o,u,hl=>by
    exfalso
    have hk:=Way.k_le o
    unfold Way.left at hl
    rcases u with z | z
    · omega
    · rw [z] at hl; simp at hl
  | fuel+1,w,o,u,hl=>by
    have hat:=Way.at_le o
    unfold SetTable.probe.go
    cases hM:M (w.at t.mask (SetTable.bits h)) with
    | none =>
      have hs:t.slot (w.probe t.mask (SetTable.bits h)).j = .empty:=R.slot_none hat hM
      refine ⟨w,o,u,Nat.le_refl _,fun w' _ l=>.inl l,.inl ⟨hM,?_⟩⟩
      rw [hs]; rfl
    | some e =>
      obtain ⟨hs,hi⟩:=R.slot_some hat hM
      have hs':t.slot (w.probe t.mask (SetTable.bits h)).j = .live (occ M (w.at t.mask (SetTable.bits h))).length:=hs
      rw [hs']
      dsimp only
      rw [hA _ _ hi]
      by_cases he:e.1 = h
      · refine ⟨w,o,u,Nat.le_refl _,fun w' _ l=>.inl l,.inr ⟨e,_,hM,he,hi,hs,?_⟩⟩
        rw [if_pos (by simp [he]),probe_next o]
        rfl
      · rw [if_neg (by simp [he]),probe_next o]
        have hne:w ≠ ⟨n0,0⟩:=fun q=>by rw [q,hz] at hM; cases hM
        obtain ⟨u2,l2⟩:=Way.upto_next u hne o
        obtain ⟨w2,a1,a2,a3,a4,a5⟩:=probe_go R hA hz fuel (w.next t.mask (SetTable.bits h)) Way.next_ok u2 (by omega)
        refine ⟨w2,a1,a2,by omega,fun w' o' l=>?_,a5⟩
        rcases a4 w' o' l with z | z
        · rcases Way.lt_next o' z with z | z
          · exact .inl z
          · right; rw [z]; exact ⟨e,hM,he⟩
        · exact .inr z
theorem empty_slot {M:Nat→Option α}:∀ n,(ent M n).length < n→∃ j,j < n∧M j = none
 | 0,h=>by omega
 | n+1,h=>by
  cases e:M n with
  | none=>exact ⟨n,by omega,e⟩
  | some x =>
   rw [ent_succ,e,List.length_append] at h
   simp at h
   obtain ⟨j,h1,h2⟩:=empty_slot n h
   exact ⟨j,by omega,h2⟩
def own (M:Nat→Option Nat) (mask:Nat):Array (Option Nat):=((List.range (mask+1)).map M).toArray
theorem own_get {M:Nat→Option Nat} {mask j:Nat} (d:Option Nat) (hj:j≤mask):(own M mask).getD j d = M j:=by
 unfold own
 rw [Array.getD_eq_getD_getElem?]
 simp [show j < mask+1 by omega]
theorem own_set {M:Nat→Option Nat} {mask j k:Nat} (hj:j≤mask):(own M mask).setIfInBounds j (some k) = own (setM M j k) mask:=by
 unfold own
 apply Array.toList_inj.mp
 simp only [Array.toList_setIfInBounds]
 apply List.ext_getElem?
 intro i
 rw [List.getElem?_set]
 by_cases h:j = i
 ·subst h
  simp [setM,show j < mask+1 by omega]
 ·rw [if_neg h]
  simp only [List.getElem?_map]
  by_cases hi:i < mask+1
  ·simp [hi,setM,Ne.symm h]
  ·simp [hi]
theorem free_spec {mask b n0:Nat} {M:Nat→Option Nat} (hz:M (lpN mask b n0).1 = none):∀ fuel n,n≤n0→n0 - n < fuel →
  ∃ w:Way,w.ok mask b∧n≤w.n∧SetTable.layClean.free mask (own M mask) fuel (lpN mask b n).1 (lpN mask b n).2 = some (w.at mask b)∧M (w.at mask b) = none∧∀ w':Way,w'.ok mask b→n≤w'.n→w'.lt w→(M (w'.at mask b)).isSome = true
 | 0,n,_,h=>by omega
 | fuel+1,n,hn,hf=>by
  have hi:=Nat.le_of_lt_succ (lpN_lt mask b n)
  have re:=runEnd_le hi
  unfold SetTable.layClean.free
  cases e:(List.range (SetTable.runEnd mask (lpN mask b n).1+1 - (lpN mask b n).1)).find? fun k=>((own M mask).getD ((lpN mask b n).1+k) (some 0)).isNone with
  | some k =>
   rw [List.find?_range_eq_some] at e
   obtain ⟨e1,e2,e3⟩:=e
   have e2':k < SetTable.runEnd mask (lpN mask b n).1+1 - (lpN mask b n).1:=by simpa using e2
   rw [own_get _ (by omega)] at e1
   refine ⟨⟨n,k⟩,by show _+k≤_; show (lpN mask b n).1+k≤SetTable.runEnd mask (lpN mask b n).1; omega,Nat.le_refl _,rfl,?_,fun w' o' hn' hl=>?_⟩
   ·cases q:M ((⟨n,k⟩:Way).at mask b) with
    | none=>rfl
    | some z =>
     have q':M ((lpN mask b n).1+k) = some z:=q
     rw [q'] at e1; simp at e1
   ·rcases hl with z | ⟨z1,z2⟩
    ·have z':w'.n < n:=z
     omega
    ·have z1':w'.n = n:=z1
     have z2':w'.k < k:=z2
     have q:=e3 w'.k z2'
     rw [own_get _ (by omega)] at q
     unfold Way.at
     rw [z1']
     cases q2:M ((lpN mask b n).1+w'.k) with
     | none=>rw [q2] at q; simp at q
     | some _=>rfl
  | none =>
   rw [List.find?_range_eq_none] at e
   have all:∀ k,(lpN mask b n).1+k≤SetTable.runEnd mask (lpN mask b n).1→(M ((lpN mask b n).1+k)).isSome = true:=fun k hk=>by
    have q:=e k (by omega)
    rw [own_get _ (by omega)] at q
    cases q2:M ((lpN mask b n).1+k) with
    | none=>rw [q2] at q; simp at q
    | some _=>rfl
   have hne:n ≠ n0:=fun q=>by
    have z:=all 0 (by omega)
    rw [Nat.add_zero,q,hz] at z; simp at z
   obtain ⟨w,a1,a2,a3,a4,a5⟩:=free_spec hz fuel (n+1) (by omega) (by omega)
   refine ⟨w,a1,by omega,a3,a4,fun w' o' hn' hl=>?_⟩
   by_cases q:w'.n = n
   ·unfold Way.ok at o'
    rw [q] at o'
    have:=all w'.k o'
    unfold Way.at
    rw [q]; exact this
   ·exact a5 w' o' (by omega) hl
structure Lay (mask:Nat) (hs:List Int) (M:Nat→Option Nat):Prop where
 cnt:(ent M (mask+1)).length = hs.length
 val:∀ j k,j≤mask→M j = some k→k < hs.length
 inj:∀ i j k,i≤mask→j≤mask→M i = some k→M j = some k→i = j
 way:∀ k h,hs[k]? = some h→∃ w:Way,w.ok mask (SetTable.bits h)∧M (w.at mask (SetTable.bits h)) = some k∧∀ w':Way,w'.ok mask (SetTable.bits h)→w'.lt w→(M (w'.at mask (SetTable.bits h))).isSome = true
theorem Lay.nil (mask:Nat):Lay mask [] (fun _=>none):=⟨by unfold ent; simp,fun _ _ _ h=>by simp at h,fun _ _ _ _ _ h=>by simp at h,fun k h e=>by simp at e⟩
theorem Lay.step {mask:Nat} (hm:Good mask) {hs:List Int} {M:Nat→Option Nat} (L:Lay mask hs M) (hlt:hs.length≤mask) (h:Int) :
  ∃ j M',SetTable.layClean.free mask (own M mask) (SetTable.turns mask) (SetTable.bits h % (mask+1)) (SetTable.bits h) = some j∧(own M mask).setIfInBounds j (some hs.length) = own M' mask∧Lay mask (hs++[h]) M':=by
 obtain ⟨j0,hj0,hz0⟩:=empty_slot (M:=M) (mask+1) (by rw [L.cnt]; omega)
 obtain ⟨n0,hn0,hc⟩:=cover hm (bits_lt h) (show j0≤mask by omega)
 obtain ⟨w,a1,a2,a3,a4,a5⟩:=free_spec (M:=M) (b:=SetTable.bits h) (n0:=n0) (by rw [hc]; exact hz0) (SetTable.turns mask) 0 (Nat.zero_le _) (by unfold SetTable.turns; omega)
 have hat:=Way.at_le a1
 have keep:∀ i,i ≠ w.at mask (SetTable.bits h)→setM M (w.at mask (SetTable.bits h)) hs.length i = M i:=fun i hi=>by unfold setM; rw [if_neg hi]
 have here:setM M (w.at mask (SetTable.bits h)) hs.length (w.at mask (SetTable.bits h)) = some hs.length:=by unfold setM; rw [if_pos rfl]
 have more:∀ i,(M i).isSome = true→(setM M (w.at mask (SetTable.bits h)) hs.length i).isSome = true:=fun i hi=>by
  by_cases e:i = w.at mask (SetTable.bits h)
  ·rw [e,here]; rfl
  ·rw [keep i e]; exact hi
 refine ⟨w.at mask (SetTable.bits h),setM M (w.at mask (SetTable.bits h)) hs.length,a3,own_set hat,⟨?_,?_,?_,?_⟩⟩
 ·obtain ⟨p,p',h1,h2,h3,h4⟩:=put_split (n:=mask+1) hs.length (show w.at mask (SetTable.bits h) < mask+1 by omega) a4
  have c:=L.cnt
  rw [h2] at c
  rw [h4]
  simp at c ⊢; omega
 ·intro i k hi e
  rw [List.length_append]
  by_cases q:i = w.at mask (SetTable.bits h)
  ·rw [q,here] at e; cases e; simp
  ·rw [keep i q] at e; have:=L.val i k hi e; simp; omega
 ·intro i j k hi hj e1 e2
  by_cases q1:i = w.at mask (SetTable.bits h)
  ·by_cases q2:j = w.at mask (SetTable.bits h)
   ·rw [q1,q2]
   ·rw [q1,here] at e1; cases e1
    rw [keep j q2] at e2
    have:=L.val j _ hj e2
    omega
  ·rw [keep i q1] at e1
   by_cases q2:j = w.at mask (SetTable.bits h)
   ·rw [q2,here] at e2; cases e2
    have:=L.val i _ hi e1
    omega
   ·rw [keep j q2] at e2
    exact L.inj i j k hi hj e1 e2
 ·intro k g e
  by_cases q:k < hs.length
  ·rw [List.getElem?_append_left q] at e
   obtain ⟨w1,b1,b2,b3⟩:=L.way k g e
   refine ⟨w1,b1,?_,fun w' o' l'=>more _ (b3 w' o' l')⟩
   rw [keep _ fun z=>by rw [z,a4] at b2; cases b2]
   exact b2
  ·have hk:k = hs.length:=by
    have:=(List.getElem?_eq_some_iff.mp e).1
    rw [List.length_append] at this; simp at this; omega
   subst hk
   rw [List.getElem?_append_right (Nat.le_refl _),Nat.sub_self] at e
   simp at e; subst e
   exact ⟨w,a1,here,fun w' o' l'=>more _ (a5 w' o' (Nat.zero_le _) l')⟩
theorem lay_fold {mask:Nat} (hm:Good mask):∀ (rs hs:List Int) (M:Nat→Option Nat),Lay mask hs M→hs.length+rs.length≤mask+1 →
  ∃ M',rs.foldl (init:=some (own M mask,hs.length)) (fun acc h=>do
   let (owner,k) ← acc
   let j ← SetTable.layClean.free mask owner (SetTable.turns mask) (SetTable.bits h % (mask+1)) (SetTable.bits h)
   pure (owner.setIfInBounds j (some k),k+1)) = some (own M' mask,hs.length+rs.length)∧Lay mask (hs++rs) M'
 | [],hs,M,L,_=>⟨M,by simp,by simpa using L⟩
 | h :: rs,hs,M,L,hl=>by
  simp at hl
  obtain ⟨j,M1,e1,e2,L1⟩:=L.step hm (by omega) h
  obtain ⟨M',e3,L'⟩:=lay_fold hm rs (hs++[h]) M1 L1 (by simp; omega)
  refine ⟨M',?_,by simpa using L'⟩
  rw [List.foldl_cons]
  simp only [Option.bind_eq_bind,Option.bind_some,e1,e2]
  simp only [List.length_append,List.length_cons,List.length_nil] at e3 ⊢
  rw [show hs.length+(rs.length+1) = hs.length+(0+1)+rs.length by omega]
  exact e3
theorem own_none (mask:Nat):own (fun _=>none) mask = Array.replicate (mask+1) none:=by
 unfold own
 apply Array.toList_inj.mp
 rw [Array.toList_replicate]
 apply List.ext_getElem?
 intro i
 simp only [List.getElem?_map,List.getElem?_replicate]
 by_cases h:i < mask+1
 ·simp [h]
 ·simp [h]
theorem laid_spec {β:Type} {mask:Nat} (hm:Good mask) (es:Array (En β)) (hl:es.size≤mask) (finger moves:Nat) (led plain:Bool) :
  ∃ t' order M',SetTable.laid mask finger moves led plain (es.map (·.1)) = some (t',order)∧t'.mask = mask∧t'.led = led∧t'.plain = plain∧Rep t' (order.filterMap (es[·]?)) M'∧Reach mask M'∧(order.filterMap (es[·]?)).toList.Perm es.toList:=by
 obtain ⟨M,e1,L⟩:=lay_fold hm (es.map (·.1)).toList [] (fun _=>none) (Lay.nil mask) (by simp; omega)
 simp only [List.nil_append] at L
 have hlen:(es.map (·.1)).toList.length = es.size:=by simp
 have e2:SetTable.layClean mask (es.map (·.1)) = some (own M mask):=by
  unfold SetTable.layClean
  rw [← own_none,← Array.foldl_toList]
  rw [show (0:Nat) = ([]:List Int).length from rfl,e1]
  rfl
 have lv:((List.range (mask+1)).filterMap fun j=>((own M mask).getD j none).map (j,·)) = (List.range (mask+1)).filterMap fun j=>(M j).map (j,·):=by
  have go:∀ n,n≤mask+1→((List.range n).filterMap fun j=>((own M mask).getD j none).map (j,·)) = (List.range n).filterMap fun j=>(M j).map (j,·):=by
   intro n
   induction n with
   | zero=>intro _; rfl
   | succ n ih =>
    intro hn
    rw [List.range_succ,List.filterMap_append,List.filterMap_append,ih (by omega)]
    simp only [List.filterMap_cons,List.filterMap_nil]
    rw [own_get none (show n≤mask by omega)]
  exact go _ (Nat.le_refl _)
 have f1:((List.range (mask+1)).filterMap fun j=>(M j).map (j,·)).map (·.1) = occ M (mask+1):=by
  have go:∀ n,((List.range n).filterMap fun j=>(M j).map (j,·)).map (·.1) = occ M n:=by
   intro n
   induction n with
   | zero=>rfl
   | succ n ih =>
    rw [List.range_succ,List.filterMap_append,List.map_append,ih,occ_succ]
    cases e:M n <;> simp [e]
  exact go _
 have f2:((List.range (mask+1)).filterMap fun j=>(M j).map (j,·)).map (·.2) = ent M (mask+1):=by
  have go:∀ n,((List.range n).filterMap fun j=>(M j).map (j,·)).map (·.2) = ent M n:=by
   intro n
   induction n with
   | zero=>rfl
   | succ n ih =>
    rw [List.range_succ,List.filterMap_append,List.map_append,ih,ent_succ]
    cases e:M n <;> simp [e]
  exact go _
 refine ⟨⟨mask,(occ M (mask+1)).toArray,#[],finger,led,moves,plain⟩,(ent M (mask+1)).toArray,fun j=>(M j).bind (es[·]?),?_,rfl,rfl,rfl,?_,?_,?_⟩
 ·unfold SetTable.laid
  rw [e2]
  simp only [Option.bind_eq_bind,Option.bind_some]
  rw [lv,f1,f2]
  rfl
 ·have vv:∀ j,j < mask+1→((M j).bind (es[·]?)).isSome = (M j).isSome:=fun j hj=>by
   cases e:M j with
   | none=>rfl
   | some k =>
    have:=L.val j k (by omega) e
    rw [hlen] at this
    simp [this]
  refine ⟨?_,?_,rfl⟩
  ·show (occ M (mask+1)).toArray = (occ (fun j=>(M j).bind (es[·]?)) (mask+1)).toArray
   unfold occ
   rw [List.filter_congr fun j hj=>(vv j (by simpa using hj)).symm]
  ·show ((ent M (mask+1)).toArray).filterMap (es[·]?) = (ent (fun j=>(M j).bind (es[·]?)) (mask+1)).toArray
   unfold ent
   rw [List.filterMap_toArray,List.filterMap_filterMap]
 ·intro j e hj he
  have he:(M j).bind (es[·]?) = some e:=he
  cases q:M j with
  | none=>rw [q] at he; cases he
  | some k =>
   rw [q] at he
   have he':es[k]? = some e:=he
   have hk:(es.map (·.1)).toList[k]? = some e.1:=by simp [he']
   obtain ⟨w,a1,a2,a3⟩:=L.way k e.1 hk
   have at_eq:w.at mask (SetTable.bits e.1) = j:=L.inj _ _ k (Way.at_le a1) hj a2 q
   refine ⟨w,a1,at_eq,fun w' o' l'=>?_⟩
   have z:=a3 w' o' l'
   cases q2:M (w'.at mask (SetTable.bits e.1)) with
   | none=>rw [q2] at z; simp at z
   | some k' =>
    have:=L.val _ _ (Way.at_le o') q2
    rw [hlen] at this
    show ((M (w'.at mask (SetTable.bits e.1))).bind (es[·]?)).isSome = true
    rw [q2]
    simp [this]
 ·have perm:(ent M (mask+1)).Perm (List.range es.size):=by
   have nd:(ent M (mask+1)).Nodup:=by
    have go:∀ n,n≤mask+1→(ent M n).Nodup∧∀ k ∈ ent M n,∃ j,j < n∧M j = some k:=by
     intro n
     induction n with
     | zero=>intro _; exact ⟨List.nodup_nil,fun k hk=>by simp [ent] at hk⟩
     | succ n ih =>
      intro hn
      obtain ⟨i1,i2⟩:=ih (by omega)
      rw [ent_succ]
      cases e:M n with
      | none =>
       simp only [Option.toList_none,List.append_nil]
       exact ⟨i1,fun k hk=>let ⟨j,a,b⟩:=i2 k hk; ⟨j,by omega,b⟩⟩
      | some k0 =>
       refine ⟨?_,fun k hk=>?_⟩
       ·rw [List.nodup_append]
        refine ⟨i1,by simp,fun a ha b hb hab=>?_⟩
        simp at hb
        obtain ⟨j,hj,hM⟩:=i2 a ha
        rw [hab,hb] at hM
        have:=L.inj j n k0 (by omega) (by omega) hM e
        omega
       ·rcases List.mem_append.mp hk with hk | hk
        ·obtain ⟨j,a,b⟩:=i2 k hk; exact ⟨j,by omega,b⟩
        ·simp at hk; exact ⟨n,by omega,by rw [e,hk]⟩
    exact (go _ (Nat.le_refl _)).1
   refine (List.perm_ext_iff_of_nodup nd List.nodup_range).mpr fun k=>?_
   rw [List.mem_range]
   unfold ent
   rw [List.mem_filterMap]
   constructor
   ·rintro ⟨j,hj,e⟩
    have:=L.val j k (by simp at hj; omega) e
    rwa [hlen] at this
   ·intro hk
    obtain ⟨w,a1,a2,_⟩:=L.way k (es.map (·.1)).toList[k] (List.getElem?_eq_getElem (by rw [hlen]; exact hk))
    exact ⟨_,List.mem_range.mpr (Nat.lt_succ_of_le (Way.at_le a1)),a2⟩
  have p2:=perm.filterMap (es[·]?)
  have e3:(List.range es.size).filterMap (es[·]?) = es.toList:=by
   have go:∀ n,n≤es.size→(List.range n).filterMap (es[·]?) = es.toList.take n:=by
    intro n
    induction n with
    | zero=>intro _; rfl
    | succ n ih =>
     intro hn
     rw [List.range_succ,List.filterMap_append,ih (by omega),List.take_add_one]
     congr 1
     have:n < es.size:=by omega
     simp [this]
   rw [go _ (Nat.le_refl _)]
   have:es.toList.length = es.size:=by simp
   rw [← this,List.take_length]
  rw [e3] at p2
  simpa using p2
theorem left_start {n0 mask:Nat} (h:n0≤mask+13) {w:Way}:w.left n0≤10 * SetTable.turns mask:=by
 unfold Way.left SetTable.turns; omega
end STab
namespace STab
open PySem
section
variable {prog:Program} {w:World} {A:Around} {E:Value→Shared→Prop}
abbrev TK (prog:Program) (w:World):HeapKind prog w (List Int):=tupleKind (intKind prog w)
def Tups (prog:Program) (w:World) (h:Heap) (es:List (En Value)):Prop:=∀ e ∈ es,∃ ks b,e.2 = .ref b∧(TK prog w).is h ks b∧e.1 = (TK prog w).hash ks
structure Tab (prog:Program) (w:World) (h:Heap) (a:Addr) (es:Array (En Value)) (ep:Nat) (t:SetTable) (M:Nat→Option (En Value)):Prop where
 ob:∃ o,h.get? a = some o∧o.ExactSet∧o.data = .set es ep t
 rep:Rep t es M
 rch:Reach t.mask M
 good:Good t.mask
 room:es.size * 5 < t.mask * 3
 pln:t.plain = true
 led:t.led = !(w.params.followText "set-order")
 tup:Tups prog w h es.toList
theorem Tab.fits {h:Heap} {a:Addr} {es:Array (En Value)} {ep:Nat} {t:SetTable} {M:Nat→Option (En Value)} (T:Tab prog w h a es ep t M):t.fits es.size = true:=by
 unfold SetTable.fits SetTable.fill
 have:=T.room
 rw [T.rep.size,T.rep.dm]
 simp; omega
theorem Tab.empty {h:Heap} {a:Addr} {es:Array (En Value)} {ep:Nat} {t:SetTable} {M:Nat→Option (En Value)} (T:Tab prog w h a es ep t M) (hh:Int):∃ n0,n0≤t.mask+13∧M ((⟨n0,0⟩:Way).at t.mask (SetTable.bits hh)) = none:=by
 have hs:(ent M (t.mask+1)).length = es.size:=by rw [T.rep.es]; simp
 obtain ⟨j,hj,hz⟩:=empty_slot (M:=M) (t.mask+1) (by rw [hs]; have:=T.room; omega)
 obtain ⟨n0,h1,h2⟩:=cover T.good (bits_lt hh) (show j≤t.mask by omega)
 exact ⟨n0,h1,by show M ((lpN t.mask (SetTable.bits hh) n0).1+0) = none; rw [Nat.add_zero,h2]; exact hz⟩
theorem ints_of {ks:List Int} {vs:List Value} (h:ItemsAre (intKind prog w) ks vs):∀ v ∈ vs,∃ i u,v = Value.int i u:=by
 induction h with
 | nil=>intro v hv; simp at hv
 | cons hk _ ih =>
  intro v hv
  rcases List.mem_cons.mp hv with rfl | hv
  ·obtain ⟨t,e⟩:=Value.isInt_shape hk
   exact ⟨_,t,e⟩
  ·exact ih v hv
theorem ofClass_tuple {s:Shared} {ks:List Int} {b:Addr} {Q:Bool→Shared→Prop} (hk:(TK prog w).is s.heap ks b) (h:Q false s):wpAny (model prog w) A (ofAClassStatement 8 (.ref b)) Q E s:=by
 obtain ⟨o,items,n,ho,hc,hd,hi⟩:=hk
 unfold ofAClassStatement
 refine wpAny_bind (wpAny_typeOf (⟨o,ho,hc⟩:s.TypeIs (.ref b) "tuple") ?_)
 dsimp only
 rw [if_pos (by decide)]
 refine wpAny_bind (wpAny_pure ?_)
 simp only [Bool.not_true,Bool.false_eq_true,if_false]
 refine wpAny_bind (wpAny_seqItems ho hd ?_)
 dsimp only
 refine wpAny_bind ?_
 rw [← Array.forIn_toList]
 refine wpAny_forIn_list _ (fun rest r s'=>r.1 = none∧s' = s∧∀ v ∈ rest,∃ i u,v = Value.int i u) _ ?_ ?_ _ _ ⟨rfl,rfl,ints_of hi⟩
 ·rintro v rest r s' ⟨hr,rfl,hall⟩
  obtain ⟨i,u,rfl⟩:=hall v List.mem_cons_self
  rw [show ofAClassStatement 7 (Value.int i u) = pure false from rfl]
  refine wpAny_bind (wpAny_pure ?_)
  rw [if_neg Bool.false_ne_true]
  exact wpAny_pure ⟨rfl,rfl,fun v hv=>hall v (List.mem_cons_of_mem _ hv)⟩
 ·rintro ⟨r1,r2⟩ s' ⟨hr,rfl,_⟩
  simp only at hr
  subst hr
  exact wpAny_pure h
theorem byVal_tuple {s:Shared} {ks:List Int} {b:Addr} {Q:Bool→Shared→Prop} (hk:(TK prog w).is s.heap ks b) (h:Q true s):wpAny (model prog w) A (hashByValue 8 (.ref b)) Q E s:=by
 obtain ⟨o,items,n,ho,hc,hd,hi⟩:=hk
 unfold hashByValue
 refine wpAny_bind (wpAny_specialOf (⟨o,ho,hc⟩:s.TypeIs (.ref b) "tuple") F.slot_tuple_hash.lookup ?_)
 dsimp only
 refine wpAny_bind (wpAny_seqItems ho hd ?_)
 rw [Option.getD_some]
 refine wpAny_bind ?_
 rw [← Array.forIn_toList]
 refine wpAny_forIn_list _ (fun rest r s'=>r.1 = none∧s' = s∧∀ v ∈ rest,∃ i u,v = Value.int i u) _ ?_ ?_ _ _ ⟨rfl,rfl,ints_of hi⟩
 ·rintro v rest r s' ⟨hr,rfl,hall⟩
  obtain ⟨i,u,rfl⟩:=hall v List.mem_cons_self
  rw [show hashByValue 7 (Value.int i u) = pure true from rfl]
  refine wpAny_bind (wpAny_pure ?_)
  simp only [Bool.not_true,Bool.false_eq_true,if_false]
  exact wpAny_pure ⟨rfl,rfl,fun v hv=>hall v (List.mem_cons_of_mem _ hv)⟩
 ·rintro ⟨r1,r2⟩ s' ⟨hr,rfl,_⟩
  simp only at hr
  subst hr
  exact wpAny_pure h
theorem unseen {s:Shared} {ks:List Int} {b:Addr} {ys:List Value} {Q:Bool→Shared→Prop} (hk:(TK prog w).is s.heap ks b) (hy:∀ y ∈ ys,∃ ks' b',y = Value.ref b'∧(TK prog w).is s.heap ks' b') (h:Q false s) :
  wpAny (model prog w) A (searchCouldBeSeen (.ref b) ys) Q E s:=by
 unfold searchCouldBeSeen
 refine wpAny_bind ?_
 refine wpAny_forIn_list _ (fun rest r s'=>r.1 = none∧s' = s∧∀ y ∈ rest,∃ ks' b',y = Value.ref b'∧(TK prog w).is s.heap ks' b') _ ?_ ?_ _ _ ⟨rfl,rfl,hy⟩
 ·rintro v rest r s' ⟨hr,rfl,hall⟩
  obtain ⟨ks',b',rfl,hk'⟩:=hall v List.mem_cons_self
  have tl:∀ y ∈ rest,∃ ks' b',y = Value.ref b'∧(TK prog w).is s'.heap ks' b':=fun y hy=>hall y (List.mem_cons_of_mem _ hy)
  dsimp only
  refine wpAny_ite ?_
  split
  ·exact wpAny_pure ⟨rfl,rfl,tl⟩
  ·refine wpAny_bind ((TK prog w).quiet hk ?_)
   simp only [Bool.not_true,Bool.false_eq_true,if_false]
   refine wpAny_bind ((TK prog w).quiet hk' ?_)
   simp only [Bool.not_true,Bool.false_eq_true,if_false]
   refine wpAny_bind (ofClass_tuple hk ?_)
   simp only [Bool.false_eq_true,if_false]
   refine wpAny_bind (ofClass_tuple hk' ?_)
   simp only [Bool.false_eq_true,if_false]
   exact wpAny_pure ⟨rfl,rfl,tl⟩
 ·rintro ⟨r1,r2⟩ s' ⟨hr,rfl,_⟩
  simp only at hr
  subst hr
  exact wpAny_pure h
theorem Tab.odd {h:Heap} {a:Addr} {es:Array (En Value)} {ep:Nat} {t:SetTable} {M:Nat→Option (En Value)} (T:Tab prog w h a es ep t M):t.gaveWay = false:=by
 unfold SetTable.gaveWay
 rcases T.good with e | e <;> rw [e] <;> rfl
theorem search_ok {s:Shared} {a b:Addr} {es:Array (En Value)} {ep:Nat} {t:SetTable} {M:Nat→Option (En Value)} (T:Tab prog w s.heap a es ep t M) {ks:List Int} (hk:(TK prog w).is s.heap ks b) (hr:(TK prog w).room A) {n0:Nat}
  (hz:M ((⟨n0,0⟩:Way).at t.mask (SetTable.bits ((TK prog w).hash ks))) = none) (hn:n0≤t.mask+13) {Q:SetFound→Shared→Prop}
  (there:(∃ e ∈ es.toList,∃ b',e.2 = Value.ref b'∧(TK prog w).is s.heap ks b')→Q (.there none) s)
  (free:∀ w2:Way,w2.ok t.mask (SetTable.bits ((TK prog w).hash ks))→M (w2.at t.mask (SetTable.bits ((TK prog w).hash ks))) = none →
   (∀ w':Way,w'.ok t.mask (SetTable.bits ((TK prog w).hash ks))→w'.lt w2→(M (w'.at t.mask (SetTable.bits ((TK prog w).hash ks)))).isSome = true) →
   (∀ e ∈ es.toList,∀ b',e.2 = Value.ref b'→¬ (TK prog w).is s.heap ks b')→Q (.free (w2.at t.mask (SetTable.bits ((TK prog w).hash ks))) false) s) :
  ∀ (fuel:Nat) (wy:Way) (stand:Option SetTable.Probe),stand.getD (t.probeStart ((TK prog w).hash ks)) = wy.probe t.mask (SetTable.bits ((TK prog w).hash ks))→wy.ok t.mask (SetTable.bits ((TK prog w).hash ks))→wy.upto n0→wy.left n0 < fuel →
   (∀ w':Way,w'.ok t.mask (SetTable.bits ((TK prog w).hash ks))→w'.lt wy→∃ e,M (w'.at t.mask (SetTable.bits ((TK prog w).hash ks))) = some e∧∀ b',e.2 = Value.ref b'→¬ (TK prog w).is s.heap ks b') →
   wpAny (model prog w) A (setSearchFrom a (.ref b) ((TK prog w).hash ks) true fuel stand) Q E s
 | 0,_,_,_,_,_,hl,_=>by omega
 | fuel+1,wy,stand,hst,o,u,hl,hpast=>by
  obtain ⟨ob,ho,_,hd⟩:=T.ob
  have memM:∀ {j:Nat} {e:En Value},j≤t.mask→M j = some e→e ∈ es.toList:=fun {j e} hj he=>by
   obtain ⟨_,hi⟩:=T.rep.slot_some hj he
   have:=Array.mem_of_getElem? hi
   simpa using this
  unfold setSearchFrom
  refine wpAny_bind (wpAny_setState_of ho hd T.fits ?_)
  dsimp only
  rw [T.odd]
  simp only [Bool.false_eq_true,if_false]
  rw [hst]
  obtain ⟨w2,a1,a2,a3,a4,a5⟩:=probe_go T.rep (hashAt:=fun i=>(es[i]?.map (·.1)).getD 0) (fun i e he=>by simp [he]) hz (10 * SetTable.turns t.mask) wy o u (left_start hn)
  have past2:∀ w':Way,w'.ok t.mask (SetTable.bits ((TK prog w).hash ks))→w'.lt w2→∃ e,M (w'.at t.mask (SetTable.bits ((TK prog w).hash ks))) = some e∧∀ b',e.2 = Value.ref b'→¬ (TK prog w).is s.heap ks b':=fun w' o' l'=>by
   rcases a4 w' o' l' with z | ⟨e,z1,z2⟩
   ·exact hpast w' o' z
   ·refine ⟨e,z1,fun b' eb hb=>z2 ?_⟩
    obtain ⟨ks',b2,e2,hk2,hh⟩:=T.tup e (memM (Way.at_le o') z1)
    rw [eb] at e2; cases e2
    rw [hh,(TK prog w).inj hk2 hb]
  generalize hpv:t.probe _ ((TK prog w).hash ks) (wy.probe t.mask (SetTable.bits ((TK prog w).hash ks))) = r
  rcases a5 with ⟨hM,hp⟩ | ⟨e,i,hM,he,hi,hs,hp⟩
  ·obtain rfl:r = some (.empty (w2.at t.mask (SetTable.bits ((TK prog w).hash ks))) none):=hpv.symm.trans hp
   dsimp only
   refine wpAny_pure (free w2 a1 hM (fun w' o' l'=>?_) fun e' he' b' eb hb=>?_)
   ·obtain ⟨e',z,_⟩:=past2 w' o' l'
    rw [z]; rfl
   ·-- e' stands somewhere,and its way comes by here
    rw [T.rep.es] at he'
    have he2:e' ∈ ent M (t.mask+1):=by simpa using he'
    obtain ⟨j,hj,hMj⟩:=List.mem_filterMap.mp he2
    have hj':j≤t.mask:=Nat.le_of_lt_succ (List.mem_range.mp hj)
    have eh:e'.1 = (TK prog w).hash ks:=by
     obtain ⟨ks',b2,e2,hk2,hh⟩:=T.tup e' (memM hj' hMj)
     rw [eb] at e2; cases e2
     rw [hh,(TK prog w).inj hk2 hb]
    obtain ⟨w3,c1,c2,c3⟩:=T.rch j e' hj' hMj
    rw [eh] at c1 c2 c3
    rcases Way.tri w3 w2 with z | z | z
    ·obtain ⟨e3,z1,z2⟩:=past2 w3 c1 z
     rw [c2,hMj] at z1; cases z1
     exact z2 b' eb hb
    ·rw [z] at c2; rw [c2,hMj] at hM; cases hM
    ·have:=c3 w2 a1 z
     rw [hM] at this; simp at this
  ·obtain rfl:r = some (.candidate (w2.at t.mask (SetTable.bits ((TK prog w).hash ks))) i ((w2.next t.mask (SetTable.bits ((TK prog w).hash ks))).probe t.mask (SetTable.bits ((TK prog w).hash ks)))):=hpv.symm.trans hp
   dsimp only
   obtain ⟨ks',b',e2,hk2,hh⟩:=T.tup e (memM (Way.at_le a1) hM)
   have hne:w2 ≠ ⟨n0,0⟩:=fun q=>by rw [q,hz] at hM; cases hM
   obtain ⟨u2,l2⟩:=Way.upto_next a2 hne a1
   have main:wpAny (model prog w) A (match es[i]? with
       | some (fst,y)=>do
        let equal ← holding [y] (eqBool y (Value.ref b))
        let __x ← setState a
        if (true && equal) = true then pure (SetFound.there none)
         else
          match __x.2.snd.sameMemory t.moves t.mask with
          | some same =>
           match if same = true then __x.2.snd.slot (w2.at t.mask (SetTable.bits ((TK prog w).hash ks))) else SetTable.Slot.empty with
           | SetTable.Slot.live i' =>
            match __x.fst[i']? with
            | some (fst,y')=>do
             let __do_lift ← isSame y' y
             let still ← pure (if __do_lift = true then some i' else none)
             match still with
              | none=>do
               rule "set.search.anew"
               setSearchFrom a (Value.ref b) ((TK prog w).hash ks) true fuel none
              | some i' =>
               if equal = true then pure (SetFound.there (some i'))
               else setSearchFrom a (Value.ref b) ((TK prog w).hash ks) true fuel (some ((w2.next t.mask (SetTable.bits ((TK prog w).hash ks))).probe t.mask (SetTable.bits ((TK prog w).hash ks))))
            | none=>do
             let still ← pure none
             match still with
              | none=>do
               rule "set.search.anew"
               setSearchFrom a (Value.ref b) ((TK prog w).hash ks) true fuel none
              | some i' =>
               if equal = true then pure (SetFound.there (some i'))
               else setSearchFrom a (Value.ref b) ((TK prog w).hash ks) true fuel (some ((w2.next t.mask (SetTable.bits ((TK prog w).hash ks))).probe t.mask (SetTable.bits ((TK prog w).hash ks))))
           | x=>do
            let still ← pure none
            match still with
             | none=>do
              rule "set.search.anew"
              setSearchFrom a (Value.ref b) ((TK prog w).hash ks) true fuel none
             | some i' =>
              if equal = true then pure (SetFound.there (some i'))
              else setSearchFrom a (Value.ref b) ((TK prog w).hash ks) true fuel (some ((w2.next t.mask (SetTable.bits ((TK prog w).hash ks))).probe t.mask (SetTable.bits ((TK prog w).hash ks))))
          | x=>unsupported "set.changed-during-lookup:is-the-new-block-at-the-old-address"
       | x=>unsupported "internal:set-entry") Q E s:=by
    rw [hi]
    obtain ⟨eh,ev⟩:=e
    have ev':ev = Value.ref b':=e2
    subst ev'
    dsimp only
    refine wpAny_bind (wpAny_holding ((TK prog w).eqBool hr hk2 hk ?_))
    refine wpAny_bind (wpAny_setState_of ho hd T.fits ?_)
    dsimp only
    by_cases q:ks' = ks
    ·rw [decide_eq_true q]
     rw [if_pos (by rfl)]
     subst q
     exact wpAny_pure (there ⟨_,memM (Way.at_le a1) hM,b',rfl,hk2⟩)
    ·rw [decide_eq_false q]
     rw [if_neg (by simp)]
     have sm:t.sameMemory t.moves t.mask = some true:=by unfold SetTable.sameMemory; simp
     rw [sm]
     dsimp only
     rw [if_pos rfl,hs]
     dsimp only
     rw [hi]
     dsimp only
     refine wpAny_bind (wpAny_isSame_ref_self ?_)
     rw [if_pos rfl]
     refine wpAny_bind (wpAny_pure ?_)
     dsimp only
     rw [if_neg Bool.false_ne_true]
     refine search_ok T hk hr hz hn there free fuel (w2.next t.mask (SetTable.bits ((TK prog w).hash ks))) _ rfl Way.next_ok u2 (by omega) fun w' o' l'=>?_
     rcases Way.lt_next o' l' with z | z
     ·exact past2 w' o' z
     ·rw [z]
      exact ⟨_,hM,fun b2 eb hb=>by cases eb; exact q ((TK prog w).inj hk2 hb)⟩
   cases hled:t.led with
   | true =>
    simp only [Bool.not_true,Bool.false_eq_true,if_false]
    exact main
   | false =>
    simp only [Bool.not_false,if_true]
    refine wpAny_bind (unseen hk (fun y hy=>?_) ?_)
    ·obtain ⟨e',he',ey⟩:=List.mem_map.mp hy
     have he'':e' ∈ es.toList:=by
      have:=(Array.mem_filter.mp (by simpa using he':e' ∈ Array.filter (fun x=>x.fst == (TK prog w).hash ks) es)).1
      simpa using this
     obtain ⟨ks3,b3,e3,hk3,_⟩:=T.tup e' he''
     exact ⟨ks3,b3,by rw [← ey,e3],hk3⟩
    ·rw [if_neg Bool.false_ne_true]
     exact main
theorem is_at {h h':Heap} {a b:Addr} {ks:List Int} {o:Obj} {es:Array (En Value)} {ep:Nat} {t:SetTable} (hk:(TK prog w).is h ks b) (ho:h.get? a = some o) (hd:o.data = .set es ep t) (sb:Heap.SameBut a h h'):(TK prog w).is h' ks b:=by
 obtain ⟨ob,items,n,e,hc,hd',hi⟩:=hk
 have ne:b ≠ a:=fun q=>by subst q; rw [ho] at e; cases e; rw [hd] at hd'; cases hd'
 exact ⟨ob,items,n,(sb.2 b ne).trans e,hc,hd',hi⟩
theorem insertAt_perm {β:Type} (xs:Array β) (p:Nat) (hp:p≤xs.size) (x:β):(SetTable.insertAt xs p x).toList.Perm (x :: xs.toList):=by
 unfold SetTable.insertAt
 have e:xs.toList = xs.toList.take p++xs.toList.drop p:=(List.take_append_drop _ _).symm
 have h1:((xs.extract 0 p).push x++xs.extract p xs.size).toList = xs.toList.take p++x :: xs.toList.drop p:=by
  simp [Array.toList_extract]
  rw [List.take_of_length_le (by simp)]
 rw [h1]
 refine List.perm_middle.trans ?_
 rw [List.take_append_drop]
theorem insertAt_size {β:Type} (xs:Array β) (p:Nat) (hp:p≤xs.size) (x:β):(SetTable.insertAt xs p x).size = xs.size+1:=by
 have:=(insertAt_perm xs p hp x).length_eq
 simpa using this
theorem add_ok {s:Shared} {a b:Addr} {es:Array (En Value)} {ep:Nat} {t:SetTable} {M:Nat→Option (En Value)} (T:Tab prog w s.heap a es ep t M) (hs:es.size≤16) {ks:List Int} (hk:(TK prog w).is s.heap ks b) (hr:(TK prog w).room A)
  {Q:Bool→Shared→Prop} (hold:(∃ e ∈ es.toList,∃ b',e.2 = Value.ref b'∧(TK prog w).is s.heap ks b')→Q false s)
  (hnew:∀ h' es' ep' t' M',Heap.SameBut a s.heap h'→Tab prog w h' a es' ep' t' M'→es'.toList.Perm (((TK prog w).hash ks,Value.ref b) :: es.toList)→t'.led = t.led →
   (∀ e ∈ es.toList,∀ b',e.2 = Value.ref b'→¬ (TK prog w).is s.heap ks b')→Q true { s with heap:=h' }) :
  wpAny (model prog w) A (setAddHashed a (.ref b) ((TK prog w).hash ks)) Q E s:=by
 obtain ⟨ob,ho,hx,hd⟩:=T.ob
 obtain ⟨n0,hn0,hz⟩:=T.empty ((TK prog w).hash ks)
 unfold setAddHashed setAddHashedIn
 refine wpAny_holding (wpAny_bind (wpAny_setState_of ho hd T.fits ?_))
 dsimp only
 rw [show byScan (Value.ref b) es = false from rfl]
 simp only [Bool.false_eq_true,if_false]
 unfold setSearch
 have lf:(⟨0,0⟩:Way).left n0 < 100000:=by
  unfold Way.left
  have:t.mask≤31:=by rcases T.good with e | e <;> omega
  omega
 have up0:(⟨0,0⟩:Way).upto n0:=by
  by_cases e:n0 = 0
  ·subst e; exact .inr rfl
  ·exact .inl (by show 0 < n0; omega)
 refine wpAny_bind (search_ok T hk hr hz hn0 (fun ex=>?_) (fun w2 o2 hM past none'=>?_) 100000 ⟨0,0⟩ none rfl ?_ up0 lf ?_)
 ·dsimp only
  exact wpAny_pure (hold ex)
 ·dsimp only
  refine wpAny_bind (wpAny_setState_of ho hd T.fits ?_)
  dsimp only
  have hat:=Way.at_le o2
  obtain ⟨R2,m2,l2,p2⟩:=T.rep.put hat hM ((TK prog w).hash ks,Value.ref b)
  have hb:(t.put (w2.at t.mask (SetTable.bits ((TK prog w).hash ks)))).2≤es.size:=by
   show SetTable.below t.place _≤_
   rw [T.rep.pl,below_occ M (by omega),occ_length]
   have e1:(ent M (t.mask+1)).length = es.size:=by rw [T.rep.es]; simp
   obtain ⟨_,_,_,q2,_,_⟩:=put_split (n:=t.mask+1) ((TK prog w).hash ks,Value.ref b) (show w2.at t.mask (SetTable.bits ((TK prog w).hash ks)) < t.mask+1 by omega) hM
   rw [q2,List.length_append] at e1
   omega
  generalize hput:t.put (w2.at t.mask (SetTable.bits ((TK prog w).hash ks))) = pt at R2 m2 l2 p2 hb
  obtain ⟨t1,p⟩:=pt
  dsimp only at R2 m2 l2 p2 hb ⊢
  rw [p2,T.pln]
  rw [if_pos rfl]
  refine wpAny_bind (byVal_tuple hk ?_)
  rw [if_pos rfl]
  have sz1:=insertAt_size es p hb ((TK prog w).hash ks,Value.ref b)
  have pm1:=insertAt_perm es p hb ((TK prog w).hash ks,Value.ref b)
  refine wpAny_bind (wpAny_storeSet_of ho hd ?_ (by rw [sz1]; exact Nat.le_trans (show es.size+1≤17 by omega) (by decide)))
  have sb1:=Heap.SameBut.update s.heap a (Obj.putSet (SetTable.insertAt es p ((TK prog w).hash ks,Value.ref b)) t1)
  have hg1:(s.heap.update a (Obj.putSet (SetTable.insertAt es p ((TK prog w).hash ks,Value.ref b)) t1)).get? a = some { ob with data:=.set (SetTable.insertAt es p ((TK prog w).hash ks,Value.ref b)) (ep+1) t1 }:=by
   have q:=Heap.get?_update_self (Obj.putSet (SetTable.insertAt es p ((TK prog w).hash ks,Value.ref b)) t1) ho (by rw [putSet_of _ _ hd]; rfl)
   rw [putSet_of _ _ hd] at q; exact q
  have tup1:∀ {l:List (En Value)},l.Perm (((TK prog w).hash ks,Value.ref b) :: es.toList)→Tups prog w (s.heap.update a (Obj.putSet (SetTable.insertAt es p ((TK prog w).hash ks,Value.ref b)) t1)) l:=fun {l} pm e he=>by
   rcases List.mem_cons.mp (pm.mem_iff.mp he) with z | z
   ·rw [z]; exact ⟨ks,b,rfl,is_at hk ho hd sb1,rfl⟩
   ·obtain ⟨ks',b',x1,x2,x3⟩:=T.tup e z
    exact ⟨ks',b',x1,is_at x2 ho hd sb1,x3⟩
  have rch1:Reach t.mask (setM M (w2.at t.mask (SetTable.bits ((TK prog w).hash ks))) ((TK prog w).hash ks,Value.ref b)):=by
   have more:∀ i,(M i).isSome = true→(setM M (w2.at t.mask (SetTable.bits ((TK prog w).hash ks))) ((TK prog w).hash ks,Value.ref b) i).isSome = true:=fun i hi=>by
    unfold setM; split
    ·rfl
    ·exact hi
   intro j e hj he
   by_cases q:j = w2.at t.mask (SetTable.bits ((TK prog w).hash ks))
   ·unfold setM at he; rw [if_pos q] at he; cases he
    exact ⟨w2,o2,q.symm,fun w' o' l'=>more _ (past w' o' l')⟩
   ·unfold setM at he; rw [if_neg q] at he
    obtain ⟨w3,c1,c2,c3⟩:=T.rch j e hj he
    exact ⟨w3,c1,c2,fun w' o' l'=>more _ (c3 w' o' l')⟩
  have fill1:t1.fill = es.size+1:=by
   unfold SetTable.fill
   rw [R2.size,R2.dm,sz1]; rfl
  by_cases full:t1.tooFull = true
  ·rw [if_pos (by rw [full]; rfl)]
   have hm7:t.mask = 7∧es.size = 4:=by
    unfold SetTable.tooFull at full
    rw [fill1,m2] at full
    have f2:=of_decide_eq_true full
    have rm:=T.room
    rcases T.good with e | e
    ·rw [e] at f2 rm; exact ⟨e,by omega⟩
    ·rw [e] at f2; omega
   have fits1:t1.fits (SetTable.insertAt es p ((TK prog w).hash ks,Value.ref b)).size = true:=by
    unfold SetTable.fits
    rw [R2.size,fill1,m2,hm7.1,hm7.2]; simp
   refine wpAny_bind ?_
   unfold setRelay
   refine wpAny_bind (wpAny_setState_of hg1 rfl fits1 ?_)
   dsimp only
   have sa:SetTable.sizeAbove (SetTable.grown (es.size+1)) = 32:=by rw [hm7.2]; decide
   rw [sa]
   rw [if_neg (by decide)]
   obtain ⟨t2,order,M2,q1,q2,q3,q4,R3,rch3,pm3⟩:=laid_spec (mask:=31) (.inr rfl) (SetTable.insertAt es p ((TK prog w).hash ks,Value.ref b)) (by rw [sz1,hm7.2]; decide) t1.finger (t1.movedTo 31) t1.led t1.plain
   have rl:t1.relaid ((SetTable.insertAt es p ((TK prog w).hash ks,Value.ref b)).map (·.1)) (SetTable.grown (es.size+1)) = some (t2,order):=by
    unfold SetTable.relaid; rw [sa]; exact q1
   rw [rl]
   have szo:(order.filterMap ((SetTable.insertAt es p ((TK prog w).hash ks,Value.ref b))[·]?)).size = (SetTable.insertAt es p ((TK prog w).hash ks,Value.ref b)).size:=by
    have:=pm3.length_eq
    rw [Array.length_toList,Array.length_toList] at this
    exact this
   refine wpAny_bind (?_:wpAny (model prog w) A (do
    let some (tn,od):=some (t2,order) | unsupported "internal:set-table-without-room"
    let en:=od.filterMap ((SetTable.insertAt es p ((TK prog w).hash ks,Value.ref b))[·]?)
    if en.size != (SetTable.insertAt es p ((TK prog w).hash ks,Value.ref b)).size then unsupported "internal:set-table-lost-an-element"
    pure (en,tn)) _ _ _)
   dsimp only
   rw [if_neg (by rw [szo]; simp)]
   refine wpAny_pure ?_
   dsimp only
   refine wpAny_storeSet_of hg1 rfl ?_ (by rw [szo,sz1]; exact Nat.le_trans (show es.size+1≤17 by omega) (by decide))
   refine wpAny_pure ?_
   have sb2:=sb1.trans (Heap.SameBut.update (s.heap.update a (Obj.putSet (SetTable.insertAt es p ((TK prog w).hash ks,Value.ref b)) t1)) a (Obj.putSet (order.filterMap ((SetTable.insertAt es p ((TK prog w).hash ks,Value.ref b))[·]?)) t2))
   refine hnew _ _ (ep+1+1) t2 M2 sb2 ⟨⟨_,Heap.get?_update_self _ hg1 (by rw [putSet_of _ _ rfl]; rfl),?_,by rw [putSet_of _ _ rfl]⟩,R3,by rw [q2]; exact rch3,by rw [q2]; exact .inr rfl,by rw [szo,sz1,q2,hm7.2]; decide,by rw [q4,p2]; exact T.pln,by rw [q3,l2]; exact T.led,?_⟩ (pm3.trans pm1) (by rw [q3,l2]) none'
   ·rw [putSet_of _ _ rfl]; exact hx
   ·intro e he
    obtain ⟨ks',b',x1,x2,x3⟩:=tup1 (pm3.trans pm1) e he
    exact ⟨ks',b',x1,is_at x2 hg1 rfl (Heap.SameBut.update _ a _),x3⟩
  ·rw [if_neg (by rw [Bool.not_eq_true] at full; rw [full]; simp)]
   refine wpAny_pure ?_
   refine hnew _ _ (ep+1) t1 _ sb1 ⟨⟨_,hg1,hx,rfl⟩,R2,by rw [m2]; exact rch1,by rw [m2]; exact T.good,?_,by rw [p2]; exact T.pln,by rw [l2]; exact T.led,tup1 pm1⟩ pm1 l2 none'
   unfold SetTable.tooFull at full
   rw [fill1] at full
   rw [sz1]
   simpa using full
 ·show (lpN t.mask (SetTable.bits ((TK prog w).hash ks)) 0).1+0≤_
  exact (runEnd_le (Nat.le_of_lt_succ (lpN_lt _ _ _))).1
 ·intro w' o' l'
  rcases l' with z | ⟨_,z⟩ <;> exact absurd z (Nat.not_lt_zero _)
end
end STab
namespace STab
open PySem
section
variable {prog:Program} {w:World} {A:Around} {E:Value→Shared→Prop}
def KeyOf (prog:Program) (w:World) (h:Heap) (v:Value) (ks:List Int):Prop:=∃ b,v = Value.ref b∧(TK prog w).is h ks b
structure Memb (prog:Program) (w:World) (h:Heap) (es:List (En Value)) (kss:List (List Int)) (vs:List Value):Prop where
 into:∀ e ∈ es,e.2 ∈ vs∧∃ ks ∈ kss,KeyOf prog w h e.2 ks
 onto:∀ ks ∈ kss,∃ e ∈ es,KeyOf prog w h e.2 ks
 once:es.Pairwise fun e f=>∀ ks,KeyOf prog w h e.2 ks→¬ KeyOf prog w h f.2 ks
 size:es.length≤kss.length
theorem KeyOf.inj {h:Heap} {v:Value} {a b:List Int} (x:KeyOf prog w h v a) (y:KeyOf prog w h v b):a = b:=by
 obtain ⟨p,rfl,x⟩:=x
 obtain ⟨q,e,y⟩:=y
 cases e
 exact (TK prog w).inj x y
theorem upd_loop {I l S:Addr} {items:Array Value} {kss:List (List Int)} (hh:A.in1.handled = none) (hne:l ≠ I) (hSI:S ≠ I) (hSl:S ≠ l) (hr:(TK prog w).room A.in1) (s0:Shared)
  (hk:∀ (i:Nat) v,items[i]? = some v→∃ ks b,kss[i]? = some ks∧v = Value.ref b∧b ≠ I∧b ≠ S∧(TK prog w).is s0.heap ks b) (hlen:kss.length = items.size) (hb:items.size≤16) {R:Result→Shared→Prop}
  (fin:∀ h tk es ep t M,(∀ b o,b ≠ I→b ≠ S→s0.heap.get? b = some o→h.get? b = some o)→Tab prog w h S es ep t M→Memb prog w s0.heap es.toList kss items.toList→R (.ok (.ret .none)) { s0 with heap:=h,toks:=tk }) :
  ∀ (k i:Nat) (h:Heap) (tk:Nat) (es:Array (En Value)) (ep:Nat) (t:SetTable) (M:Nat→Option (En Value)),items.size - i = k→i≤items.size→h.IsListIter I l i→h.IsList l items →
   (∀ b o,b ≠ I→b ≠ S→s0.heap.get? b = some o→h.get? b = some o)→Tab prog w h S es ep t M→Memb prog w s0.heap es.toList (kss.take i) items.toList →
   codeAny (model prog w) A (.builtin "set.update.loop" ⟨[.ref S,.ref I],[]⟩) R { s0 with heap:=h,toks:=tk }
 | 0,i,h,tk,es,ep,t,M,hki,hi,hit,hl,kp,T,mb=>by
  refine codeAny_builtin (PyProof.Rows.F.entry_set_update_loop) ?_
  rw [Around.under_plainId (PyProof.Rows.F.plain_set_update_loop) _]
  show wpAny _ A.in1 (pyNext (.ref I) >>= fun _=>_) _ _ { s0 with heap:=h,toks:=tk }
  refine wpAny_bind (wpAny_pyNext_list_end hh hit hl (by simp; omega) fun h' he=>?_)
  show wpAny _ A.in1 (ret Value.none) _ _ _
  refine wpAny_pure (fin h' tk es ep t M (fun b o n1 n2 e=>he b o n1 (kp b o n1 n2 e)) ?_ (by rw [List.take_of_length_le (by omega)] at mb; exact mb))
  obtain ⟨ob,ho,hx,hd⟩:=T.ob
  refine ⟨⟨ob,he S ob hSI ho,hx,hd⟩,T.rep,T.rch,T.good,T.room,T.pln,T.led,fun e hee=>?_⟩
  obtain ⟨ks,b,e1,e2,e3⟩:=T.tup e hee
  refine ⟨ks,b,e1,?_,e3⟩
  obtain ⟨o2,it2,n2,g2,c2,d2,i2⟩:=e2
  have nb:b ≠ I:=fun q=>by
   subst q
   obtain ⟨o3,g3,_,d3⟩:=hit
   rw [g2] at g3; cases g3; rw [d2] at d3; cases d3
  exact ⟨o2,it2,n2,he b o2 nb g2,c2,d2,i2⟩
 | k+1,i,h,tk,es,ep,t,M,hki,hi,hit,hl,kp,T,mb=>by
  refine codeAny_builtin (PyProof.Rows.F.entry_set_update_loop) ?_
  rw [Around.under_plainId (PyProof.Rows.F.plain_set_update_loop) _]
  show wpAny _ A.in1 (pyNext (.ref I) >>= fun _=>_) _ _ { s0 with heap:=h,toks:=tk }
  have hlt:i < items.size:=by omega
  obtain ⟨ks,b,hks,ev,nI,nS,hb0⟩:=hk i items[i] (by simp [hlt])
  refine wpAny_bind (wpAny_pyNext_list_item hit hl (x:=items[i]) (by simp [hlt]) fun h' hit' sb'=>?_)
  rw [ev]
  show wpAny _ A.in1 (holding [Value.ref b] (setAdd S (.ref b)) >>= fun _=>_) _ _ _
  refine wpAny_bind (wpAny_holding ?_)
  unfold setAdd
  refine wpAny_holding ?_
  have kp':∀ b o,b ≠ I→b ≠ S→s0.heap.get? b = some o→h'.get? b = some o:=fun b o n1 n2 e=>(sb'.2 b n1).trans (kp b o n1 n2 e)
  have isb:∀ {g:Heap},(∀ b o,b ≠ I→b ≠ S→s0.heap.get? b = some o→g.get? b = some o)→(TK prog w).is g ks b:=fun {g} q=>by
   obtain ⟨o2,it2,n2,g2,c2,d2,i2⟩:=hb0
   exact ⟨o2,it2,n2,q b o2 nI nS g2,c2,d2,i2⟩
  have T':Tab prog w h' S es ep t M:=by
   obtain ⟨ob,ho,hx,hd⟩:=T.ob
   refine ⟨⟨ob,(sb'.2 S hSI).trans ho,hx,hd⟩,T.rep,T.rch,T.good,T.room,T.pln,T.led,fun e hee=>?_⟩
   obtain ⟨ks',b',e1,e2,e3⟩:=T.tup e hee
   refine ⟨ks',b',e1,?_,e3⟩
   obtain ⟨o2,it2,n2,g2,c2,d2,i2⟩:=e2
   have nb:b' ≠ I:=fun q=>by
    subst q
    obtain ⟨o3,g3,_,d3⟩:=hit
    rw [g2] at g3; cases g3; rw [d2] at d3; cases d3
   exact ⟨o2,it2,n2,(sb'.2 b' nb).trans g2,c2,d2,i2⟩
  refine wpAny_bind ((TK prog w).pyHash hr (isb kp') ?_)
  have sz:es.size≤16:=by
   have:=mb.size
   rw [List.length_take,Array.length_toList] at this
   omega
  have key0:∀ {v:Value} {g:Heap} {q:List Int},v ∈ items.toList→(∀ b o,b ≠ I→b ≠ S→s0.heap.get? b = some o→g.get? b = some o)→KeyOf prog w g v q→KeyOf prog w s0.heap v q:=fun {v g q} hv hg hq=>by
   obtain ⟨j,hj⟩:=List.mem_iff_getElem?.mp hv
   obtain ⟨ks',b',_,ev',n1,n2,hb'⟩:=hk j v (by simpa using hj)
   obtain ⟨b2,e2,hq⟩:=hq
   rw [ev'] at e2; cases e2
   have hb2:(TK prog w).is g ks' b':=by
    obtain ⟨o2,it2,m2,g2,c2,d2,i2⟩:=hb'
    exact ⟨o2,it2,m2,hg b' o2 n1 n2 g2,c2,d2,i2⟩
   rw [(TK prog w).inj hq hb2]
   exact ⟨b',ev',hb'⟩
  have next:∀ {h2:Heap} {tk2:Nat} {es2:Array (En Value)} {ep2:Nat} {t2:SetTable} {M2:Nat→Option (En Value)},Heap.SameBut S h' h2→Tab prog w h2 S es2 ep2 t2 M2→Memb prog w s0.heap es2.toList (kss.take (i+1)) items.toList →
    codeAny (model prog w) A (.builtin "set.update.loop" ⟨[.ref S,.ref I],[]⟩) R { s0 with heap:=h2,toks:=tk2 }:=fun {h2 tk2 es2 ep2 t2 M2} sb2 T2 mb2 =>
   upd_loop hh hne hSI hSl hr s0 hk hlen hb fin k (i+1) h2 tk2 es2 ep2 t2 M2 (by omega) (by omega) (hit'.extBut sb2.extBut (Ne.symm hSI)) ((hl.extBut sb'.extBut hne).extBut sb2.extBut (Ne.symm hSl))
    (fun b o n1 n2 e=>(sb2.2 b n2).trans (kp' b o n1 n2 e)) T2 mb2
  have tk1:kss.take (i+1) = kss.take i++[ks]:=by rw [List.take_add_one,hks]; rfl
  refine add_ok (s:={ s0 with heap:=h',toks:=tk+(TK prog w).draws ks }) T' sz (isb kp') hr (fun hex=>?_) (fun h2 es2 ep2 t2 M2 sb2 T2 pm _ none'=>?_)
  ·refine wpAny_pure ⟨plainId_quiet (PyProof.Rows.F.plain_set_update_loop) _,next (Heap.SameBut.refl S h') T' ?_⟩
   obtain ⟨e,he,b',e1,e2⟩:=hex
   rw [tk1]
   refine ⟨fun f hf=>?_,fun q hq=>?_,mb.once,by rw [List.length_append]; exact Nat.le_succ_of_le mb.size⟩
   ·obtain ⟨x1,q,x2,x3⟩:=mb.into f hf
    exact ⟨x1,q,List.mem_append_left _ x2,x3⟩
   ·rcases List.mem_append.mp hq with z | z
    ·exact mb.onto q z
    ·simp at z; subst z
     exact ⟨e,he,key0 (mb.into e he).1 kp' ⟨b',e1,e2⟩⟩
  ·refine wpAny_pure ⟨plainId_quiet (PyProof.Rows.F.plain_set_update_loop) _,next sb2 T2 ?_⟩
   rw [tk1]
   have nw:∀ f ∈ es.toList,¬ KeyOf prog w s0.heap f.2 ks:=fun f hf hq=>by
    obtain ⟨b',e1,e2⟩:=hq
    refine none' f hf b' e1 ?_
    obtain ⟨j,hj⟩:=List.mem_iff_getElem?.mp (mb.into f hf).1
    obtain ⟨_,b2,_,ev',n1,n2,_⟩:=hk j f.2 (by simpa using hj)
    rw [e1] at ev'; cases ev'
    obtain ⟨o2,it2,m2,g2,c2,d2,i2⟩:=e2
    exact ⟨o2,it2,m2,kp' b' o2 n1 n2 g2,c2,d2,i2⟩
   refine ⟨fun f hf=>?_,fun q hq=>?_,?_,by rw [pm.length_eq,List.length_append]; exact Nat.succ_le_succ mb.size⟩
   ·rcases List.mem_cons.mp (pm.mem_iff.mp hf) with z | z
    ·rw [z]
     exact ⟨by rw [← ev]; simp,ks,by simp,b,rfl,hb0⟩
    ·obtain ⟨x1,q,x2,x3⟩:=mb.into f z
     exact ⟨x1,q,List.mem_append_left _ x2,x3⟩
   ·rcases List.mem_append.mp hq with z | z
    ·obtain ⟨f,hf,x⟩:=mb.onto q z
     exact ⟨f,pm.mem_iff.mpr (List.mem_cons_of_mem _ hf),x⟩
    ·simp at z; subst z
     exact ⟨_,pm.mem_iff.mpr List.mem_cons_self,b,rfl,hb0⟩
   ·refine (pm.pairwise_iff (fun {x y} hxy q hy hx=>hxy q hx hy)).mpr (List.pairwise_cons.mpr ⟨fun f hf q hq hf2=>?_,mb.once⟩)
    have:q = ks:=hq.inj ⟨b,rfl,hb0⟩
    subst this
    exact nw f hf hf2
end
end STab
namespace STab
open PySem
section
variable {prog:Program} {w:World} {A:Around} {E:Value→Shared→Prop} {s:Shared}
theorem fresh_tab {h:Heap} {a:Addr} {led:Bool} (hled:led = !(w.params.followText "set-order")) (ho:h.get? a = some { cls:=.type "set",dict:=none,data:=.set #[] 0 (.fresh 0 0 led) }):Tab prog w h a #[] 0 (.fresh 0 0 led) (fun _=>none):=by
 refine ⟨⟨_,ho,⟨rfl,rfl,rfl⟩,rfl⟩,⟨?_,?_,rfl⟩,fun j e _ he=>by simp at he,.inl rfl,(by show 0 * 5 < 7 * 3; decide),rfl,hled,fun e he=>by simp at he⟩
 ·show #[] = (occ (fun _=>none) 8).toArray
  rfl
 ·show #[] = (ent (fun _=>none) 8).toArray
  rfl
theorem new_set (a:Value) {Q1:Value→Shared→Prop}
  (h:Q1 (Value.ref s.heap.objs.size) { s with heap:=s.heap.push { cls:=.type "set",dict:=none,data:=.set #[] 0 (.fresh 0 0 (!(w.params.followText "set-order"))) } }) :
  codeAny (model prog w) A (.call (.builtin "set.__new__") ⟨[.type "set",a],[]⟩) (wants Q1 E) s:=by
 refine codeAny_of_tree ?_
 show wpAny _ A.in1 (checkBuiltinCall "set.__new__" ⟨[.type "set",a],[]⟩ >>= fun _=>again (.builtin "set.__new__" ⟨[.type "set",a],[]⟩)) _ _ s
 refine wpAny_bind (wpAny_of_eq (F.newCall_set_1 a) (wpAny_pure ⟨plainId_quiet (F.plain_set_new) _,codeAny_builtin (F.entry_set_new) ?_⟩))
 rw [Around.under_plainId (F.plain_set_new) _]
 unfold Builtin.«set.__new__» Builtin.Frozenset.newClass
 have hsub:=sub_set_self
 obtain ⟨hp,g,d,tk,os⟩:=s
 dsimp only
 wp_walk
 refine wpAny_askSetting (wpAny_pure ?_)
 dsimp only
 simp only [newObj]
 refine wpAny_bind (wpAny_alloc (wpAny_pure ?_))
 exact wpAny_pure h
set_option maxRecDepth 100000 in
set_option maxHeartbeats 3200000 in
theorem call_set_tups {l:Addr} {items:Array Value} {kss:List (List Int)} {Q:Value→Shared→Prop} (hh:A.handled = none) (hu:A.units+8 < cLine) (hl:s.heap.IsList l items)
  (hk:∀ (i:Nat) v,items[i]? = some v→∃ ks b,kss[i]? = some ks∧v = Value.ref b∧(TK prog w).is s.heap ks b) (hlen:kss.length = items.size) (hb:items.size≤16)
  (h:∀ (h':Heap) (tk:Nat) es ep t M,Tab prog w h' s.heap.objs.size es ep t M→Memb prog w s.heap es.toList kss items.toList→(∀ b o,b < s.heap.objs.size→s.heap.get? b = some o→h'.get? b = some o)→Q (.ref s.heap.objs.size) { s with heap:=h',toks:=tk }) :
  wpAny (model prog w) A (call (.type "set") [.ref l]) Q E s:=by
 obtain ⟨cc,tl,hmro⟩:=F.called_set.mro
 have hmade:=F.called_set.made
 have hsub:=F.called_set.sub
 refine wpAny_call (codeAny_of_tree ?_)
 show wpAny _ _ (callAny (Value.type "set") _) _ _ _
 refine wpAny_pure ⟨Code.quiet_builtin _ (by decide +kernel),codeAny_builtin (F.entry_type_call) ?_⟩
 rw [Around.under_plain (weight_type_call_type "set" [Value.ref l] []) rfl]
 have h1:=F.called_set.notType
 have h2:=F.called_set.canCreate
 have hct:=F.typeCall_set_1 (Value.ref l)
 repeat (any_goals (first | assumption | wp_step))
 refine codeAny_mono (new_set (Value.ref l) (E:=E) (Q1:=fun obj s1=>∃ led:Bool,led = (!(w.params.followText "set-order"))∧obj = Value.ref s.heap.objs.size∧s1 = { s with heap:=s.heap.push { cls:=.type "set",dict:=none,data:=.set #[] 0 (.fresh 0 0 led) } }) ⟨_,rfl,rfl,rfl⟩) fun r s1 hr=>?_
 cases r with
 | error e=>exact hr
 | ok fl =>
  cases fl with
  | ret obj =>
   obtain ⟨led,hled,rfl,rfl⟩:=hr
   have hS:(s.heap.push { cls:=.type "set",dict:=none,data:=.set #[] 0 (.fresh 0 0 led) }).get? s.heap.objs.size = some { cls:=.type "set",dict:=none,data:=.set #[] 0 (.fresh 0 0 led) }:=Heap.get?_push_size _ rfl
   have hT:Shared.TypeIs { s with heap:=s.heap.push { cls:=.type "set",dict:=none,data:=.set #[] 0 (.fresh 0 0 led) } } (Value.ref s.heap.objs.size) "set":=⟨_,hS,rfl⟩
   have hli:=F.called_set.init.lookup
   have hbi:=F.called_set.init.bind (Value.ref s.heap.objs.size)
   repeat (any_goals (first | assumption | wp_step))
   refine codeAny_mono (codeAny_call_builtin (R:=wants (fun r s2=>r = Value.none∧∃ h' tk es ep t M,s2 = { s with heap:=h',toks:=tk }∧Tab prog w h' s.heap.objs.size es ep t M∧Memb prog w s.heap es.toList kss items.toList ∧
     (∀ b o,b < s.heap.objs.size→s.heap.get? b = some o→h'.get? b = some o)) E) F.called_set.init.plain F.entry_set_init (check_set_init_1 hT ?_)) fun r2 s2 hr2=>?_
   ·obtain ⟨ol,hol,hcl,nl,hdl⟩:=hl
    obtain ⟨ocls,odict,odata,oslots⟩:=ol
    simp only at hcl hdl
    subst hcl; subst hdl
    have hol':(s.heap.push { cls:=.type "set",dict:=none,data:=.set #[] 0 (.fresh 0 0 led) }).get? l = some { cls:=.type "list",dict:=odict,data:=.seq items nl,slots:=oslots }:=Heap.get?_push_of_some _ hol
    have hsls:=F.sub_list_set
    have hslf:=F.sub_list_frozenset
    have hne:(Value.type "list" == Value.type "dict") = false:=by decide
    have hl1:(s.heap.push { cls:=.type "set",dict:=none,data:=.set #[] 0 (.fresh 0 0 led) }).IsList l items:=⟨_,hol',rfl,nl,rfl⟩
    unfold Builtin.«set.__init__» noKeywords Builtin.Frozenset.updateFrom
    generalize hPI:pyIter = PI
    wp_walk
    subst hPI
    refine wpAny_pyIter_list hl1 ?_
    refine wpAny_bind (wpAny_runValue ?_)
    have hlS:l < s.heap.objs.size:=Heap.lt_size hol
    have psz:(s.heap.push { cls:=.type "set",dict:=none,data:=.set #[] 0 (.fresh 0 0 led) }).objs.size = s.heap.objs.size+1:=Heap.size_push ..
    have hS2:((s.heap.push { cls:=.type "set",dict:=none,data:=.set #[] 0 (.fresh 0 0 led) }).push { cls:=.type "list_iterator",data:=.fields #[.ref l,.int 0 0] }).get? s.heap.objs.size = some { cls:=.type "set",dict:=none,data:=.set #[] 0 (.fresh 0 0 led) } :=
     Heap.get?_push_of_some _ hS
    refine upd_loop (I:=(s.heap.push { cls:=.type "set",dict:=none,data:=.set #[] 0 (.fresh 0 0 led) }).objs.size) (l:=l) (S:=s.heap.objs.size) (items:=items) (kss:=kss) (by simp [hh]) (by rw [psz]; exact Nat.ne_of_lt (Nat.lt_succ_of_lt hlS)) (by rw [psz]; exact Nat.ne_of_lt (Nat.lt_succ_self _)) (Nat.ne_of_gt hlS)
     (by show _ < cLine; simp only [Around.in1_units]; omega) s (fun i v hv=>?_) hlen hb ?_ (items.size - 0) 0 _ _ #[] 0 (.fresh 0 0 led) (fun _=>none) rfl (Nat.zero_le _) ⟨_,Heap.get?_push_size _ rfl,rfl,rfl⟩ (hl1.push _)
     (fun b o _ _ e=>Heap.get?_push_of_some _ (Heap.get?_push_of_some _ e)) (fresh_tab hled hS2) ⟨fun e he=>by simp at he,fun q hq=>by simp at hq,List.Pairwise.nil,by simp⟩
    ·obtain ⟨ks,b,e1,e2,e3⟩:=hk i v hv
     refine ⟨ks,b,e1,e2,?_,?_,e3⟩
     ·obtain ⟨o2,_,_,g2,_⟩:=e3
      rw [psz]; exact Nat.ne_of_lt (Nat.lt_succ_of_lt (Heap.lt_size g2))
     ·obtain ⟨o2,_,_,g2,_⟩:=e3
      exact Nat.ne_of_lt (Heap.lt_size g2)
    ·intro h' tk es ep t M kp T mb
     show wpAny _ _ _ _ _ _
     refine wpAny_pure ?_
     show wpAny _ _ (ret Value.none) _ _ _
     refine wpAny_pure ⟨rfl,h',tk,es,ep,t,M,rfl,T,mb,fun b o hb e=>kp b o (by rw [psz]; exact Nat.ne_of_lt (Nat.lt_succ_of_lt hb)) (Nat.ne_of_lt hb) e⟩
   ·cases r2 with
    | error e=>exact hr2
    | ok fl2 =>
     cases fl2 with
     | ret r =>
      obtain ⟨rfl,h',tk,es,ep,t,M,rfl,T,mb,kp⟩:=hr2
      repeat (any_goals (first | assumption | wp_step))
      exact h _ _ _ _ _ _ T mb kp
     | _=>exact hr2.elim
  | _=>exact hr.elim
end
end STab
namespace STab
open PySem PySem.F
theorem slot_si_next:Slot "set_iterator" "__next__" "set_iterator.__next__":=Slot.of (owner:="set_iterator") (n:="__next__") (by (rw [typeLookup_type,builtinLookup_eq_fast]); kernel_rfl) (by decide +kernel) (by decide +kernel) (by decide +kernel) (.inl (by decide +kernel)) (by (rw [isSubtype_type]); kernel_rfl)
theorem entry_si_next:entryFor table "set_iterator.__next__" = some Builtin.«set_iterator.__next__»:=entryFor_of_tree (by kernel_rfl)
theorem own_si:Manifest.owners.lookup (String.ofList ['r','o','t','a','r','e','t','i','_','t','e','s'].reverse) = some Manifest.sig_set_iterator:=by kernel_rfl
theorem args_si_next (a:Value):argsOk "set_iterator.__next__" ⟨[a],[]⟩:=by
 unfold argsOk
 rw [signature?_of (id:="set_iterator.__next__") (n:=['_','_','t','x','e','n','_','_']) (o:=['r','o','t','a','r','e','t','i','_','t','e','s']) (by kernel_rfl) own_si]
 kernel_rfl
theorem slot_si_iter:Slot "set_iterator" "__iter__" "set_iterator.__iter__":=Slot.of (owner:="set_iterator") (n:="__iter__") (by (rw [typeLookup_type,builtinLookup_eq_fast]); kernel_rfl) (by decide +kernel) (by decide +kernel) (by decide +kernel) (.inl (by decide +kernel)) (by (rw [isSubtype_type]); kernel_rfl)
theorem entry_si_iter:entryFor table "set_iterator.__iter__" = some Builtin.«dict_keyiterator.__iter__»:=entryFor_alias (id':="dict_keyiterator.__iter__") (by kernel_rfl) rfl (by decide +kernel) (by kernel_rfl)
theorem args_si_iter (a:Value):argsOk "set_iterator.__iter__" ⟨[a],[]⟩:=by
 unfold argsOk
 rw [signature?_of (id:="set_iterator.__iter__") (n:=['_','_','r','e','t','i','_','_']) (o:=['r','o','t','a','r','e','t','i','_','t','e','s']) (by kernel_rfl) own_si]
 kernel_rfl
theorem entry_set_iter:entryFor table "set.__iter__" = some Builtin.«frozenset.__iter__»:=entryFor_alias (id':="frozenset.__iter__") (by kernel_rfl) rfl (by decide +kernel) (by kernel_rfl)
end STab
namespace STab
open PySem
theorem pick_go {α:Type} (next:Nat→Nat):∀ (fuel k:Nat) (left:List α) (out:Array α),left.length = fuel→(pickOrder.go next fuel k left out).toList.Perm (out.toList++left)
 | 0,k,left,out,h=>by
  have:left = []:=List.length_eq_zero_iff.mp h
  subst this
  unfold pickOrder.go; simp
 | fuel+1,k,left,out,h=>by
  unfold pickOrder.go
  have hi:next k % left.length < left.length:=Nat.mod_lt _ (by omega)
  rw [List.getElem?_eq_getElem hi]
  dsimp only
  refine (pick_go next fuel (k+1) _ _ (by rw [List.length_eraseIdx_of_lt hi]; omega)).trans ?_
  rw [Array.toList_push,List.append_assoc]
  refine List.Perm.append_left _ ?_
  rw [List.eraseIdx_eq_take_drop_succ]
  have pm:(left[next k % left.length] :: (left.take (next k % left.length)++left.drop (next k % left.length+1))).Perm (left.take (next k % left.length)++left[next k % left.length] :: left.drop (next k % left.length+1)):=List.perm_middle.symm
  rw [← List.drop_eq_getElem_cons hi,List.take_append_drop] at pm
  exact pm
theorem pick_perm {α:Type} (next:Nat→Nat) (xs:Array α):(pickOrder next xs).toList.Perm xs.toList:=by
 have:=pick_go next xs.size 0 xs.toList #[] (by simp)
 simpa [pickOrder] using this
theorem below_eq {xs:Array Nat} (hr:Rising xs) {i j:Nat} (hi:i≤xs.size) (h1:∀ k a,k < i→xs[k]? = some a→a < j) (h2:∀ k a,i≤k→xs[k]? = some a→j≤a):SetTable.below xs j = i:=by
 obtain ⟨b0,b1,b2⟩:=below_spec hr j
 rcases Nat.lt_trichotomy (SetTable.below xs j) i with c | c | c
 ·have hk:SetTable.below xs j < xs.size:=by omega
  have e:xs[SetTable.below xs j]? = some xs[SetTable.below xs j]:=by simp [hk]
  have:=b2 _ _ (Nat.le_refl _) e
  have:=h1 _ _ c e
  omega
 ·exact c
 ·have hk:i < xs.size:=by omega
  have e:xs[i]? = some xs[i]:=by simp [hk]
  have:=b1 _ _ c e
  have:=h2 _ _ (Nat.le_refl _) e
  omega
section
variable {prog:Program} {w:World} {A:Around} {E:Value→Shared→Prop} {s:Shared}
structure Tab0 (w:World) (h:Heap) (a:Addr) (es:Array (En Value)) (ep:Nat) (t:SetTable) (M:Nat→Option (En Value)):Prop where
 ob:∃ o,h.get? a = some o∧o.ExactSet∧o.data = .set es ep t
 rep:Rep t es M
 room:es.size * 5 < t.mask * 3
 pln:t.plain = true
 led:t.led = !(w.params.followText "set-order")
theorem Tab.zero {h:Heap} {a:Addr} {es:Array (En Value)} {ep:Nat} {t:SetTable} {M:Nat→Option (En Value)} (T:Tab prog w h a es ep t M):Tab0 w h a es ep t M:=⟨T.ob,T.rep,T.room,T.pln,T.led⟩
theorem Tab0.fits {h:Heap} {a:Addr} {es:Array (En Value)} {ep:Nat} {t:SetTable} {M:Nat→Option (En Value)} (T:Tab0 w h a es ep t M):t.fits es.size = true:=by
 unfold SetTable.fits SetTable.fill
 have:=T.room
 rw [T.rep.size,T.rep.dm]
 simp; omega
theorem Tab0.at {h h':Heap} {S:Addr} {es:Array (En Value)} {ep:Nat} {t:SetTable} {M:Nat→Option (En Value)} (T:Tab0 w h S es ep t M) (kp:∀ o,h.get? S = some o→h'.get? S = some o):Tab0 w h' S es ep t M :=
 ⟨let ⟨ob,ho,hx,hd⟩:=T.ob; ⟨ob,kp ob ho,hx,hd⟩,T.rep,T.room,T.pln,T.led⟩
def ordS (w:World) (a:Addr) (ep:Nat) (es:Array (En Value)):Array (En Value):=if w.params.followText "set-order" = true then pickOrder (w.params.setOrder a ep) es else es
theorem ordS_perm (w:World) (a:Addr) (ep:Nat) (es:Array (En Value)):(ordS w a ep es).toList.Perm es.toList:=by
 unfold ordS; split
 ·exact pick_perm _ _
 ·exact List.Perm.refl _
theorem ordS_size (w:World) (a:Addr) (ep:Nat) (es:Array (En Value)):(ordS w a ep es).size = es.size:=by
 have:=(ordS_perm w a ep es).length_eq
 simpa using this
def slotS (w:World) (t:SetTable) (i:Nat):Nat:=if w.params.followText "set-order" = true then 0 else if i = 0 then 0 else t.place.getD (i - 1) 0+1
theorem byText {Q:Bool→Shared→Prop} (h:Q (w.params.followText "set-order") s):wpAny (model prog w) A setsByText Q E s:=by
 unfold setsByText
 exact wpAny_bind (wpAny_askSetting (wpAny_pure h))
theorem next_ok {a:Addr} {es:Array (En Value)} {ep:Nat} {t:SetTable} {M:Nat→Option (En Value)} (T:Tab0 w s.heap a es ep t M) {i:Nat} (hi:i≤es.size) {Q:Option (Value×Nat)→Shared→Prop}
  (h:Q ((ordS w a ep es)[i]?.map fun e=>(e.2,slotS w t (i+1))) s):wpAny (model prog w) A (setNext a (slotS w t i) i ep) Q E s:=by
 obtain ⟨ob,ho,hx,hd⟩:=T.ob
 unfold setNext
 refine wpAny_bind (wpAny_setState_of ho hd T.fits ?_)
 dsimp only
 refine wpAny_bind (byText ?_)
 cases hb:w.params.followText "set-order" with
 | true =>
  rw [if_pos rfl]
  rw [if_neg (by simp)]
  refine wpAny_bind ?_
  unfold setWalk
  refine wpAny_bind (wpAny_setState_of ho hd T.fits ?_)
  dsimp only
  refine wpAny_bind (byText ?_)
  rw [hb,if_pos rfl]
  refine wpAny_bind (wpAny_askSetting (wpAny_pure (wpAny_pure ?_)))
  unfold ordS at h
  rw [if_pos hb] at h
  unfold slotS at h ⊢
  rw [if_pos hb] at h ⊢
  exact h
 | false =>
  rw [if_neg Bool.false_ne_true]
  rw [if_neg (by show ¬ ((!t.plain && decide (es.size > 1)) = true); rw [T.pln]; simp)]
  refine wpAny_bind (?_:wpAny (model prog w) A (if (!t.led && !es.isEmpty) = true then unsupported "set:maker-not-led" else pure ()) _ _ _)
  rw [if_neg (by rw [T.led,hb]; simp)]
  refine wpAny_pure ?_
  have hr:Rising t.place:=by rw [T.rep.pl]; exact rising_of (occ_rising M _)
  have hpsz:=T.rep.size
  have bl:SetTable.below t.place (slotS w t i) = i:=by
   unfold slotS
   rw [if_neg (by rw [hb]; simp)]
   by_cases h0:i = 0
   ·rw [if_pos h0]
    refine below_eq hr (by omega) (fun k a hk=>by omega) fun k a _ _=>Nat.zero_le _
   ·rw [if_neg h0]
    have hlt:i - 1 < t.place.size:=by omega
    have eg:t.place.getD (i - 1) 0 = t.place[i - 1]:=by simp [Array.getD,hlt]
    have es':t.place[i - 1]? = some t.place[i - 1]:=by simp [hlt]
    rw [eg]
    refine below_eq hr (by omega) (fun k b hk e=>?_) fun k b hk e=>?_
    ·by_cases q:k = i - 1
     ·subst q; rw [es'] at e; cases e; omega
     ·have:=hr k (i - 1) b _ (by omega) e es'
      omega
    ·have:=hr (i - 1) k _ b (by omega) es' e
     omega
  rw [bl]
  unfold ordS at h
  rw [if_neg (by rw [hb]; simp)] at h
  by_cases hlt:i < es.size
  ·have e1:es[i]? = some es[i]:=by simp [hlt]
   have e2:t.place[i]? = some t.place[i]:=by simp [show i < t.place.size by omega]
   rw [e1] at h ⊢
   rw [e2]
   dsimp only
   refine wpAny_pure ?_
   have sl:slotS w t (i+1) = t.place[i]+1:=by
    unfold slotS
    rw [if_neg (by rw [hb]; simp),if_neg (by omega)]
    simp [Array.getD,show i < t.place.size by omega]
   rw [Option.map_some,sl] at h
   exact h
  ·have e1:es[i]? = none:=by simp; omega
   rw [e1] at h ⊢
   exact wpAny_pure h
def IsSI (h:Heap) (I S:Addr) (slot i n ep:Nat):Prop:=h.get? I = some { cls:=.type "set_iterator",data:=.fields #[.int slot 0,.int i 0,.ref S,.int n 0,.int ep 0] }
theorem IsSI.ty {I S:Addr} {slot i n ep:Nat} (h:IsSI s.heap I S slot i n ep):s.TypeIs (.ref I) "set_iterator":=⟨_,h,rfl⟩
theorem si_item {I S:Addr} {es:Array (En Value)} {ep:Nat} {t:SetTable} {M:Nat→Option (En Value)} (T:Tab0 w s.heap S es ep t M) {i:Nat} {e:En Value} (he:(ordS w S ep es)[i]? = some e) (hit:IsSI s.heap I S (slotS w t i) i es.size ep)
  {Q:Option Value→Shared→Prop} (hQ:∀ h',IsSI h' I S (slotS w t (i+1)) (i+1) es.size ep→Heap.SameBut I s.heap h'→Q (some e.2) { s with heap:=h' }):wpAny (model prog w) A (pyNext (.ref I)) Q E s:=by
 obtain ⟨ob,ho,hx,hd⟩:=T.ob
 have hi:i≤es.size:=by
  have:=(Array.getElem?_eq_some_iff.mp he).1
  rw [ordS_size] at this; omega
 unfold pyNext
 refine wpAny_bind (wpAny_attempt (wpAny_callSpecial?_slot (name:=Str.ofString "__next__") hit.ty slot_si_next (wpAny_call_entry slot_si_next hit.ty entry_si_next ?_ (args_si_next _))))
 unfold Builtin.«set_iterator.__next__»
 refine wpAny_bind (wpAny_pure ?_)
 refine wpAny_bind (wpAny_fieldsOf hit rfl ?_)
 dsimp only
 refine wpAny_bind (wpAny_setEntries_of ho hd T.fits ?_)
 rw [if_neg (by simp)]
 refine wpAny_bind (next_ok T hi ?_)
 rw [he]
 dsimp only [Option.map_some]
 refine wpAny_bind (wpAny_setField_rec hit (by simp) fun h1 g1 sb1=>?_)
 refine wpAny_bind (wpAny_setField_rec (s:={ s with heap:=h1 }) g1 (by simp) fun h2 g2 sb2=>?_)
 refine wpAny_pure ⟨e.2,rfl,wpAny_pure (hQ h2 ?_ (sb1.trans sb2))⟩
 unfold IsSI
 rw [g2]
 simp [rawInt]
theorem si_end {I S:Addr} {es:Array (En Value)} {ep:Nat} {t:SetTable} {M:Nat→Option (En Value)} (hh:A.handled = none) (T:Tab0 w s.heap S es ep t M) (hit:IsSI s.heap I S (slotS w t es.size) es.size es.size ep)
  {Q:Option Value→Shared→Prop} (hQ:∀ h',Heap.ExtBut I s.heap h'→Q none { s with heap:=h' }):wpAny (model prog w) A (pyNext (.ref I)) Q E s:=by
 obtain ⟨ob,ho,hx,hd⟩:=T.ob
 unfold pyNext
 refine wpAny_bind (wpAny_attempt (wpAny_callSpecial?_slot (name:=Str.ofString "__next__") hit.ty slot_si_next (wpAny_call_entry slot_si_next hit.ty entry_si_next ?_ (args_si_next _))))
 unfold Builtin.«set_iterator.__next__»
 refine wpAny_bind (wpAny_pure ?_)
 refine wpAny_bind (wpAny_fieldsOf hit rfl ?_)
 dsimp only
 refine wpAny_bind (wpAny_setEntries_of ho hd T.fits ?_)
 rw [if_neg (by simp)]
 refine wpAny_bind (next_ok T (Nat.le_refl _) ?_)
 have he:(ordS w S ep es)[es.size]? = none:=by rw [Array.getElem?_eq_none_iff,ordS_size]; exact Nat.le_refl _
 rw [he]
 dsimp only [Option.map_none]
 refine wpAny_bind (wpAny_setField_rec hit (by simp) fun h1 g1 sb1=>?_)
 refine wpAny_bind ?_
 (simp only [newExc,newTuple])
 refine wpAny_bind (wpAny_newObj_type ?_ (by size_fits))
 refine wpAny_bind (m:=firstArgMember _ _) (wpAny_of_eq (a:=Value.none) (by first | rfl | (simp only [firstArgMember]; rfl)) ?_)
 refine wpAny_newObj_type ?_ (by size_fits)
 (simp only [raiseNew])
 refine wpAny_bind (wpAny_handled ?_)
 rw [(show A.in1.handled = none from hh)]
 refine wpAny_bind (wpAny_pure (wpAny_throw ?_))
 refine wpAny_bind (wpAny_isInstance (T:="StopIteration") (b:=true) ⟨_,Heap.get?_push_size _ rfl,rfl⟩ isSubtype_stop ?_)
 exact wpAny_pure (hQ _ ((sb1.extBut.push _).push _))
theorem set_iter {S:Addr} {es:Array (En Value)} {ep:Nat} {t:SetTable} {M:Nat→Option (En Value)} (T:Tab0 w s.heap S es ep t M) {Q:Value→Shared→Prop}
  (hQ:Q (.ref s.heap.objs.size) { s with heap:=s.heap.push { cls:=.type "set_iterator",data:=.fields #[.int 0 0,.int 0 0,.ref S,.int es.size 0,.int ep 0] } }):wpAny (model prog w) A (pyIter (.ref S)) Q E s:=by
 obtain ⟨ob,ho,hx,hd⟩:=T.ob
 have hT:s.TypeIs (.ref S) "set":=⟨ob,ho,hx.1⟩
 refine wpAny_pyIter_slot hT F.slot_set_iter (wpAny_call_entry F.slot_set_iter hT entry_set_iter ?_ (F.args_set_iter_1 _))
 unfold Builtin.«frozenset.__iter__» Builtin.Frozenset.slot0 slotArgs
 simp only [List.isEmpty_nil,Bool.not_true,Bool.false_eq_true,if_false,bind_assoc,List.length_nil,bne_self_eq_false]
 unfold Builtin.Frozenset.addrOf Builtin.Frozenset.sizeOf
 refine wpAny_bind (wpAny_pure ?_)
 try dsimp only
 refine wpAny_bind (wpAny_pure ?_)
 refine wpAny_bind (wpAny_bind (wpAny_setEntries_of ho hd T.fits (wpAny_pure ?_)))
 refine wpAny_bind ?_
 unfold setDrawn
 refine wpAny_bind (wpAny_setState_of ho hd T.fits ?_)
 dsimp only
 refine wpAny_bind (byText (wpAny_pure ?_))
 rw [if_neg (by show ¬ ((!(w.params.followText "set-order") && (!t.plain && decide (es.size > 1))) = true); rw [T.pln]; simp)]
 refine wpAny_bind (wpAny_pure ?_)
 refine wpAny_bind (wpAny_setEpoch_of ho hd T.fits ?_)
 refine wpAny_bind ?_
 simp only [newFields]
 refine wpAny_newObj_type ?_ (by size_fits)
 refine wpAny_pure ⟨_,rfl,"set_iterator",_,⟨_,Heap.get?_push_size _ rfl,rfl⟩,slot_si_next.lookup,hQ⟩
theorem walk_set (hh:A.handled = none) (I S:Addr) (hne:S ≠ I) (es:Array (En Value)) (ep:Nat) (t:SetTable) (M:Nat→Option (En Value)) :
  Walks prog w A I [I,S] [I] es.size (fun i v=>∃ e,(ordS w S ep es)[i]? = some e∧e.2 = v) (fun i h=>IsSI h I S (slotS w t i) i es.size ep∧Tab0 w h S es ep t M) where
 sub:=fun b hb=>by simp at hb; simp [hb]
 frame:=fun _ _ _ st hk=>⟨hk I (by simp) _ st.1,st.2.at fun o e=>hk S (by simp) o e⟩
 item:=fun i s Q E hi st hQ=>by
  have hlt:i < (ordS w S ep es).size:=by rw [ordS_size]; exact hi
  refine si_item st.2 (e:=(ordS w S ep es)[i]) (by simp [hlt]) st.1 fun h' g' sb'=>?_
  exact hQ _ h' s.toks ⟨_,by simp [hlt],rfl⟩ ⟨g',st.2.at fun o e=>(sb'.2 S hne).trans e⟩ fun b o hb e=>(sb'.2 b (fun h=>hb (by simp [h]))).trans e
 done:=fun s Q E st hQ=>si_end hh st.2 st.1 fun h' he=>hQ h' s.toks fun b o hb e=>he b o (fun h=>hb (by simp [h])) e
 self:=fun i s Q E st hQ=>by
  refine wpAny_pyIter_slot st.1.ty slot_si_iter (wpAny_call_entry slot_si_iter st.1.ty entry_si_iter ?_ (args_si_iter _))
  show wpAny _ _ (ret (.ref I)) _ _ s
  exact wpAny_pure ⟨_,rfl,"set_iterator",_,st.1.ty,slot_si_next.lookup,hQ⟩
theorem set_hint {r:Addr} {Q:Bool→Shared→Prop} (hT:s.TypeIs (.ref r) "set") (h:Q false s):wpAny (model prog w) A (Builtin.List.listLengthHint (.ref r)) Q E s:=by
 unfold Builtin.List.listLengthHint
 refine wpAny_bind (wpAny_specialOf hT PySem.F.slot_set_len.lookup ?_)
 generalize hid:("set.__len__":String) = id0
 wp_delta
 rw [show splitId id0 = some ("set","__len__") from by subst hid; decide +kernel]
 subst hid
 refine wpAny_bind (wpAny_isInstance (T:="set") (b:=true) hT (by (rw [isSubtype_type]); kernel_rfl) ?_)
 refine wpAny_ite_split (fun hab=>absurd hab (by decide)) (fun _=>?_)
 (refine wpAny_ite_split (fun _=>?_) (fun hab=>absurd (by decide +kernel) hab))
 refine wpAny_bind (wpAny_typeOf hT ?_)
 exact wpAny_pure h
theorem src_set (S:Addr) (es:Array (En Value)) (ep:Nat) (t:SetTable) (M:Nat→Option (En Value)):PySem.W.KdlSrc prog w "set" S S es.size (fun i v=>∃ e,(ordS w S ep es)[i]? = some e∧e.2 = v) (fun h=>Tab0 w h S es ep t M) where
 type:=fun _ T=>let ⟨ob,ho,hx,_⟩:=T.ob; ⟨ob,ho,hx.1⟩
 there:=fun _ T=>let ⟨_,ho,_,_⟩:=T.ob; ⟨Heap.lt_size ho,Heap.lt_size ho⟩
 keep:=fun _ _ T hk=>T.at fun o e=>hk S (.inl rfl) o e
 notList:=by decide
 notTuple:=by decide
 hint:=fun _ _ s _ T hq=>set_hint (let ⟨ob,ho,hx,_⟩:=T.ob; ⟨ob,ho,hx.1⟩) hq
 iter:=fun _ s hh T=>⟨_,_,(fun _ _ hq=>set_iter T hq),walk_set hh _ S (let ⟨_,ho,_,_⟩:=T.ob; Nat.ne_of_lt (Heap.lt_size ho)) es ep t M,by
  refine ⟨?_,T.at fun o e=>Heap.get?_push_of_some _ e⟩
  have z:slotS w t 0 = 0:=by unfold slotS; split <;> rfl
  unfold IsSI
  rw [z]
  exact Heap.get?_push_size _ rfl⟩
end
end STab
namespace Srt
open PySem PySem.W PyProof.Rows Geo
def kat (key:Nat→Pt) (p:Array Nat) (i:Nat):Pt:=key (p.getD i 0)
theorem kat_congr {key:Nat→Pt} {p q:Array Nat} {i j:Nat} (h:p[i]? = q[j]?):kat key p i = kat key q j:=by
 unfold kat
 rw [Array.getD_eq_getD_getElem?,Array.getD_eq_getD_getElem?,h]
theorem kat_rev {key:Nat→Pt} {p:Array Nat} {i j:Nat} (hj:j≤p.size) (k:Nat):kat key (kas_rev p i j) k = if i≤k∧k < j then kat key p (i+j - 1 - k) else kat key p k:=by
 have e:=getElem?_mirror_all (i:=i) hj k
 by_cases h:i≤k∧k < j
 ·rw [if_pos h] at e ⊢; exact kat_congr e
 ·rw [if_neg h] at e ⊢; exact kat_congr e
theorem kat_bub {key:Nat→Pt} {p:Array Nat} {k l:Nat} (hk:k < p.size) (hl:l≤k) (i:Nat):kat key (bubble p k (k - l)) i = if i = l then kat key p k else if l < i∧i≤k then kat key p (i - 1) else kat key p i:=by
 have e:=getElem?_bubble hk (k - l) (Nat.sub_le _ _) i
 rw [show k - (k - l) = l by omega] at e
 by_cases h1:i = l
 ·rw [if_pos h1] at e ⊢; exact kat_congr e
 ·rw [if_neg h1] at e ⊢
  by_cases h2:l < i∧i≤k
  ·rw [if_pos h2] at e ⊢; exact kat_congr e
  ·rw [if_neg h2] at e ⊢; exact kat_congr e
def Up (key:Nat→Pt) (p:Array Nat) (m:Nat):Prop:=∀ i j,i≤j→j < m→leP (kat key p i) (kat key p j) = true
def Dn (key:Nat→Pt) (p:Array Nat) (m:Nat):Prop:=∀ i j,i≤j→j < m→leP (kat key p j) (kat key p i) = true
theorem le_refl' (a:Pt):leP a a = true:=by rw [leP_iff]; omega
theorem le_tr {a b c:Pt} (h1:leP a b = true) (h2:leP b c = true):leP a c = true:=by rw [leP_iff] at *; omega
theorem le_of_lt {a b:Pt} (h:ltP a b = true):leP a b = true:=by rw [ltP_iff] at h; rw [leP_iff]; omega
theorem le_of_nlt {a b:Pt} (h:ltP a b = false):leP b a = true:=by unfold leP; rw [h]; rfl
theorem eq_of_n {a b:Pt} (h1:ltP a b = false) (h2:ltP b a = false):a = b:=leP_antisymm (le_of_nlt h2) (le_of_nlt h1)
structure Ok (n:Nat) (p:Array Nat):Prop where
 perm:p.Perm (List.toArray (List.range n))
theorem Ok.size {n:Nat} {p:Array Nat} (h:Ok n p):p.size = n:=by rw [h.perm.size_eq]; simp
theorem Ok.at {n:Nat} {p:Array Nat} (h:Ok n p) (hn:0 < n) (i:Nat):p.getD i 0 < n:=by
 rw [Array.getD_eq_getD_getElem?]
 cases e:p[i]? with
 | none=>exact hn
 | some x =>
  have hm:x ∈ p:=Array.mem_of_getElem? e
  have:=h.perm.mem_iff.mp hm
  simpa using this
theorem Ok.rev {n:Nat} {p:Array Nat} (h:Ok n p) (i j:Nat):Ok n (kas_rev p i j):=⟨(mirror_perm _ _ _ _).trans h.perm⟩
theorem Ok.bub {n:Nat} {p:Array Nat} (h:Ok n p) (i j:Nat):Ok n (bubble p i j):=⟨(bubble_perm _ _ _).trans h.perm⟩
section
variable {n:Nat} {key:Nat→Pt} {cmp:Nat→Nat→(Bool→Shared→Prop)→Shared→Prop} {s:Shared}
theorem asc_ok (hn:0 < n) (hc:∀ i j C,i < n→j < n→C (ltP (key i) (key j)) s→cmp i j C s) {p:Array Nat} (hp:Ok n p) {G:Nat→Shared→Prop}:∀ f m,1≤m→m+f≤n→Up key p m→(∀ m',m≤m'→m'≤m+f→Up key p m'→(m' < m+f→ltP (kat key p m') (kat key p (m' - 1)) = true)→G m' s)→(kas_asc p f m).kasWp cmp G s
 | 0,m,_,_,hu,hG=>hG m (Nat.le_refl _) (Nat.le_refl _) hu (fun h=>by omega)
 | f+1,m,h1,hm,hu,hG=>by
  refine hc _ _ _ (hp.at hn _) (hp.at hn _) ?_
  show KasT.kasWp cmp (if ltP (kat key p m) (kat key p (m - 1)) = true then KasT.ret m else kas_asc p f (m+1)) G s
  cases e:ltP (kat key p m) (kat key p (m - 1)) with
  | true=>exact hG m (Nat.le_refl _) (by omega) hu (fun _=>e)
  | false =>
   refine asc_ok hn hc hp f (m+1) (by omega) (by omega) (fun i j hij hj=>?_) fun m' a b c d=>hG m' (by omega) (by omega) c (fun h=>d (by omega))
   by_cases hjm:j < m
   ·exact hu i j hij hjm
   ·obtain rfl:j = m:=by omega
    by_cases hi:i = j
    ·rw [hi]; exact le_refl' _
    ·exact le_tr (hu i (j - 1) (by omega) (by omega)) (le_of_nlt e)
theorem place_ok (hn:0 < n) (hc:∀ i j C,i < n→j < n→C (ltP (key i) (key j)) s→cmp i j C s) {p:Array Nat} (hp:Ok n p) {k:Nat} (hu:Up key p k) {G:Nat→Shared→Prop}:∀ f l r,l≤r→r≤k→r - l≤f→(∀ i,i < l→leP (kat key p i) (kat key p k) = true)→(∀ i,r≤i→i < k→ltP (kat key p k) (kat key p i) = true) →
  (∀ l',l'≤k→(∀ i,i < l'→leP (kat key p i) (kat key p k) = true)→(∀ i,l'≤i→i < k→ltP (kat key p k) (kat key p i) = true)→G l' s)→(kas_place p k f l r).kasWp cmp G s
 | 0,l,r,h1,h2,h3,a,b,hG=>hG l (by omega) a (fun i hi hk=>b i (by omega) hk)
 | f+1,l,r,h1,h2,h3,a,b,hG=>by
  unfold kas_place
  by_cases hlr:l ≥ r
  ·rw [if_pos hlr]; exact hG l (by omega) a (fun i hi hk=>b i (by omega) hk)
  ·rw [if_neg hlr]
   refine hc _ _ _ (hp.at hn _) (hp.at hn _) ?_
   show KasT.kasWp cmp (if ltP (kat key p k) (kat key p ((l+r) / 2)) = true then kas_place p k f l ((l+r) / 2) else kas_place p k f ((l+r) / 2+1) r) G s
   cases e:ltP (kat key p k) (kat key p ((l+r) / 2)) with
   | true =>
    refine place_ok hn hc hp hu f l ((l+r) / 2) (by omega) (by omega) (by omega) a (fun i hi hk=>?_) hG
    have q:=hu ((l+r) / 2) i hi hk
    rw [ltP_iff] at e ⊢; rw [leP_iff] at q; omega
   | false =>
    refine place_ok hn hc hp hu f ((l+r) / 2+1) r (by omega) (by omega) (by omega) (fun i hi=>?_) b hG
    exact le_tr (hu i ((l+r) / 2) (by omega) (by omega)) (le_of_nlt e)
theorem bin_ok (hn:0 < n) (hc:∀ i j C,i < n→j < n→C (ltP (key i) (key j)) s→cmp i j C s) {G:Array Nat→Shared→Prop} (hG:∀ p,Ok n p→Up key p n→G p s):∀ f (p:Array Nat) k,k+f = n→Ok n p→Up key p k→(kas_bin f p k).kasWp cmp G s
 | 0,p,k,hk,hp,hu=>hG p hp (by rw [← hk]; exact hu)
 | f+1,p,k,hk,hp,hu=>by
  show ((kas_place p k k 0 k).bind fun l=>kas_bin f (bubble p k (k - l)) (k+1)).kasWp cmp G s
  rw [KasT.kasWp_bind]
  refine place_ok hn hc hp hu k 0 k (by omega) (by omega) (by omega) (fun i hi=>by omega) (fun i h1 h2=>by omega) fun l hl a b=>?_
  refine bin_ok hn hc hG f _ (k+1) (by omega) (hp.bub _ _) fun i j hij hj=>?_
  have hks:k < p.size:=by rw [hp.size]; omega
  rw [kat_bub hks hl,kat_bub hks hl]
  by_cases i1:i = l
  ·rw [if_pos i1]
   by_cases j1:j = l
   ·rw [if_pos j1]; exact le_refl' _
   ·rw [if_neg j1,if_pos (by omega)]
    exact le_of_lt (b (j - 1) (by omega) (by omega))
  ·rw [if_neg i1]
   by_cases i2:l < i∧i≤k
   ·rw [if_pos i2,if_neg (by omega),if_pos (by omega)]
    exact hu (i - 1) (j - 1) (by omega) (by omega)
   ·rw [if_neg i2]
    have hil:i < l:=by omega
    by_cases j1:j = l
    ·rw [if_pos j1]; exact a i hil
    ·rw [if_neg j1]
     by_cases j2:l < j∧j≤k
     ·rw [if_pos j2]; exact hu i (j - 1) (by omega) (by omega)
     ·rw [if_neg j2]; exact hu i j hij (by omega)
theorem kat_rev_eq {p:Array Nat} {i j:Nat} (hj:j≤p.size) (he:∀ k,i≤k→k < j→kat key p k = kat key p (j - 1)) (k:Nat):kat key (kas_rev p i j) k = kat key p k:=by
 rw [kat_rev hj]
 split
 ·rename_i h
  rw [he _ (by omega) (by omega),he k h.1 h.2]
 ·rfl
theorem desc_ok (hn:0 < n) (hc:∀ i j C,i < n→j < n→C (ltP (key i) (key j)) s→cmp i j C s) {G:Array Nat×Nat×Nat→Shared→Prop}:∀ f (p:Array Nat) m q,1≤m→m+f≤n→Ok n p→Dn key p m→q+1≤m→(∀ k,m - (q+1)≤k→k < m→kat key p k = kat key p (m - 1)) →
  (∀ p' m' q',Ok n p'→m≤m'→m'≤m+f→Dn key p' m'→q'+1≤m'→(∀ k,m' - (q'+1)≤k→k < m'→kat key p' k = kat key p' (m' - 1))→G (p',m',q') s)→(kas_desc f p m q).kasWp cmp G s
 | 0,p,m,q,_,_,hp,hd,h1,he,hG=>hG p m q hp (Nat.le_refl _) (Nat.le_refl _) hd h1 he
 | f+1,p,m,q,h1,hm,hp,hd,hq,he,hG=>by
  have sz:m≤p.size:=by rw [hp.size]; omega
  refine hc _ _ _ (hp.at hn _) (hp.at hn _) ?_
  show KasT.kasWp cmp (if ltP (kat key p m) (kat key p (m - 1)) = true then (if q > 0 then kas_desc f (kas_rev p (m - (q+1)) m) (m+1) 0 else kas_desc f p (m+1) 0) else _) G s
  have ext:∀ p':Array Nat,(∀ k,kat key p' k = kat key p k)→leP (kat key p m) (kat key p (m - 1)) = true→Dn key p' (m+1):=fun p' hk hle i j hij hj=>by
   rw [hk,hk]
   by_cases hjm:j < m
   ·exact hd i j hij hjm
   ·obtain rfl:j = m:=by omega
    by_cases hi:i = j
    ·rw [hi]; exact le_refl' _
    ·exact le_tr hle (hd i (j - 1) (by omega) (by omega))
  have one:∀ p':Array Nat,∀ k,m+1 - (0+1)≤k→k < m+1→kat key p' k = kat key p' (m+1 - 1):=fun p' k a b=>by
   rw [show k = m+1 - 1 by omega]
  cases e:ltP (kat key p m) (kat key p (m - 1)) with
  | true =>
   rw [if_pos rfl]
   by_cases hq0:q > 0
   ·rw [if_pos hq0]
    exact desc_ok hn hc f _ (m+1) 0 (by omega) (by omega) (hp.rev _ _) (ext _ (kat_rev_eq sz he) (le_of_lt e)) (by omega) (one _) fun p' m' q' a b c d g k=>hG p' m' q' a (by omega) (by omega) d g k
   ·rw [if_neg hq0]
    exact desc_ok hn hc f p (m+1) 0 (by omega) (by omega) hp (ext p (fun _=>rfl) (le_of_lt e)) (by omega) (one _) fun p' m' q' a b c d g k=>hG p' m' q' a (by omega) (by omega) d g k
  | false =>
   rw [if_neg (by simp)]
   refine hc _ _ _ (hp.at hn _) (hp.at hn _) ?_
   show KasT.kasWp cmp (if ltP (kat key p (m - 1)) (kat key p m) = true then KasT.ret (p,m,q) else kas_desc f p (m+1) (q+1)) G s
   cases e2:ltP (kat key p (m - 1)) (kat key p m) with
   | true=>exact hG p m q hp (Nat.le_refl _) (by omega) hd hq he
   | false =>
    have eq:=eq_of_n e e2
    refine desc_ok hn hc f p (m+1) (q+1) (by omega) (by omega) hp (ext p (fun _=>rfl) (le_of_nlt e2)) (by omega) (fun k a b=>?_) fun p' m' q' a b c d g k=>hG p' m' q' a (by omega) (by omega) d g k
    show kat key p k = kat key p m
    by_cases hk:k = m
    ·rw [hk]
    ·rw [he k (by omega) (by omega),eq]
theorem tail_ok (hn:0 < n) (hc:∀ i j C,i < n→j < n→C (ltP (key i) (key j)) s→cmp i j C s) {p:Array Nat} (hp:Ok n p) {m:Nat} (h1:1≤m) (hm:m≤n) (hd:Dn key p m) {G:Nat×Array Nat→Shared→Prop} (hG:∀ m' p',Ok n p'→1≤m'→m'≤n→Up key p' m'→G (m',p') s) :
  (kas_tail3 m n p).kasWp cmp G s:=by
 unfold kas_tail3
 rw [KasT.kasWp_bind]
 refine asc_ok hn hc (hp.rev 0 m) (n - m) m h1 (by omega) (fun i j hij hj=>?_) fun m' a b c _=>hG m' _ (hp.rev 0 m) (by omega) (by omega) c
 have sz:m≤p.size:=by rw [hp.size]; omega
 rw [kat_rev sz,kat_rev sz,if_pos (by omega),if_pos (by omega)]
 exact hd (0+m - 1 - j) (0+m - 1 - i) (by omega) (by omega)
theorem part_ok (hn:0 < n) (hc:∀ i j C,i < n→j < n→C (ltP (key i) (key j)) s→cmp i j C s) {p:Array Nat} (hp:Ok n p) {m:Nat} (h1:1≤m) (hm:m+1≤n) (hd:Dn key p (m+1)) {G:Nat×Array Nat→Shared→Prop} (hG:∀ m' p',Ok n p'→1≤m'→m'≤n→Up key p' m'→G (m',p') s) :
  (kas_descPart m n p).kasWp cmp G s:=by
 unfold kas_descPart
 rw [KasT.kasWp_bind]
 refine desc_ok hn hc (n - (m+1)) p (m+1) 0 (by omega) (by omega) hp hd (by omega) (fun k a b=>by rw [show k = m+1 - 1 by omega]) fun p' m' q' a b c d g k=>?_
 show KasT.kasWp cmp (if q' > 0 then kas_tail3 m' n (kas_rev p' (m' - (q'+1)) m') else kas_tail3 m' n p') G s
 by_cases hq:q' > 0
 ·rw [if_pos hq]
  have sz:m'≤p'.size:=by rw [a.size]; omega
  refine tail_ok hn hc (a.rev _ _) (by omega) (by omega) (fun i j hij hj=>?_) hG
  rw [kat_rev_eq sz k,kat_rev_eq sz k]
  exact d i j hij hj
 ·rw [if_neg hq]
  exact tail_ok hn hc a (by omega) (by omega) d hG
theorem count_ok (hn:0 < n) (hc:∀ i j C,i < n→j < n→C (ltP (key i) (key j)) s→cmp i j C s) {p:Array Nat} (hp:Ok n p) {G:Nat×Array Nat→Shared→Prop} (hG:∀ m' p',Ok n p'→1≤m'→m'≤n→Up key p' m'→G (m',p') s) :
  (kas_count n p).kasWp cmp G s:=by
 unfold kas_count
 rw [KasT.kasWp_bind]
 refine asc_ok hn hc hp (n - 1) 1 (by omega) (by omega) (fun i j hij hj=>by rw [show i = 0 by omega,show j = 0 by omega]; exact le_refl' _) fun m a b c d=>?_
 by_cases hmn:m = n
 ·rw [if_pos (by simp [hmn])]
  exact hG m p hp (by omega) (by omega) c
 ·rw [if_neg (by simp [hmn])]
  have dm:=d (by omega)
  have sz:m≤p.size:=by rw [hp.size]; omega
  by_cases hm1:m > 1
  ·rw [if_pos hm1]
   refine hc _ _ _ (hp.at hn _) (hp.at hn _) ?_
   show KasT.kasWp cmp (if ltP (kat key p 0) (kat key p (m - 1)) = true then KasT.ret (m,p) else kas_descPart m n (kas_rev p 0 m)) G s
   cases e:ltP (kat key p 0) (kat key p (m - 1)) with
   | true=>exact hG m p hp (by omega) (by omega) c
   | false =>
    have alle:∀ k,0≤k→k < m→kat key p k = kat key p (m - 1):=fun k _ hk=>leP_antisymm (c k (m - 1) (by omega) (by omega)) (le_tr (le_of_nlt e) (c 0 k (by omega) hk))
    refine part_ok hn hc (hp.rev _ _) (by omega) (by omega) (fun i j hij hj=>?_) hG
    rw [kat_rev_eq sz alle,kat_rev_eq sz alle]
    by_cases hjm:j < m
    ·rw [alle i (by omega) (by omega),alle j (by omega) hjm]; exact le_refl' _
    ·obtain rfl:j = m:=by omega
     by_cases hi:i = j
     ·rw [hi]; exact le_refl' _
     ·rw [alle i (by omega) (by omega)]; exact le_of_lt dm
  ·rw [if_neg hm1]
   have m1:m = 1:=by omega
   subst m1
   refine part_ok hn hc hp (by omega) (by omega) (fun i j hij hj=>?_) hG
   by_cases hi:i = j
   ·rw [hi]; exact le_refl' _
   ·rw [show i = 0 by omega,show j = 1 by omega]; exact le_of_lt dm
theorem sort_ok (hn:0 < n) (hc:∀ i j C,i < n→j < n→C (ltP (key i) (key j)) s→cmp i j C s) {G:Array Nat→Shared→Prop} (hG:∀ p,Ok n p→Up key p n→G p s):(kas_sort n).kasWp cmp G s:=by
 unfold kas_sort
 rw [KasT.kasWp_bind]
 refine count_ok hn hc ⟨Array.Perm.refl _⟩ fun m p hp h1 hm hu=>?_
 show KasT.kasWp cmp (if m < n then kas_bin (n - max m 1) p (max m 1) else KasT.ret p) G s
 by_cases hmn:m < n
 ·rw [if_pos hmn,show max m 1 = m by omega]
  exact bin_ok hn hc hG (n - m) p m (by omega) hp hu
 ·rw [if_neg hmn]
  obtain rfl:m = n:=by omega
  exact hG p hp hu
end
end Srt
set_option maxRecDepth 100000
namespace L2
open PySem PySem.Spec PyProof.Rows Geo
def IsPt (H:Hp) (v:V) (p:Pt):Prop:=∃ a,v = .ref a∧H a = some (.tup [.int p.1,.int p.2])
abbrev ArePts (H:Hp):List V→List Pt→Prop:=Paired (IsPt H)
def Keep (H H':Hp):Prop:=∀ a xs,H a = some (.tup xs)→H' a = some (.tup xs)
theorem Keep.refl (H:Hp):Keep H H:=fun _ _ h=>h
theorem Keep.trans {H1 H2 H3:Hp} (a:Keep H1 H2) (b:Keep H2 H3):Keep H1 H3:=fun p xs h=>b p xs (a p xs h)
theorem Keep.new {H:Hp} {p:Addr} (h:H p = none) (o:HO):Keep H (upd H p o):=fun a xs e=>by rw [upd_ne (ne_of_none e h)]; exact e
theorem Keep.lst {H:Hp} {p:Addr} {xs:List V} (h:H p = some (.lst xs)) (o:HO):Keep H (upd H p o):=fun a ys e=>by rw [upd_ne (ne_of e h (by intro z; cases z))]; exact e
theorem IsPt.keep {H H':Hp} {v:V} {p:Pt} (h:IsPt H v p) (k:Keep H H'):IsPt H' v p:=by
 obtain ⟨a,e,h⟩:=h; exact ⟨a,e,k _ _ h⟩
theorem ArePts.keep {H H':Hp} {vs:List V} {ps:List Pt} (h:ArePts H vs ps) (k:Keep H H'):ArePts H' vs ps:=Paired.mapP h fun _ _ z=>z.keep k
theorem IsPt.inj {H:Hp} {v:V} {p q:Pt} (h:IsPt H v p) (h':IsPt H v q):p = q:=by
 obtain ⟨a,rfl,h⟩:=h
 obtain ⟨b,e,h'⟩:=h'
 cases e
 rw [h] at h'
 injection h' with h'; injection h' with h'; injection h' with e1 h'; injection h' with e2 _
 injection e1 with e1; injection e2 with e2
 exact Prod.ext e1 e2
theorem Pair.get {α β:Type} {F:α→β→Prop}:∀ {xs:List α} {ys:List β} {i:Nat} {x:α},Paired F xs ys→xs[i]? = some x→∃ y,ys[i]? = some y∧F x y
 | _,_,_,_,.nil,e=>by simp at e
 | _,_,0,_,.cons r _,e=>by simp at e; subst e; exact ⟨_,rfl,r⟩
 | _,_,i+1,x,.cons _ t,e=>by
  obtain ⟨u,h1,h2⟩:=Pair.get (i:=i) (x:=x) t (by simpa using e)
  exact ⟨u,by simpa using h1,h2⟩
theorem Pair.get' {α β:Type} {F:α→β→Prop}:∀ {xs:List α} {ys:List β} {i:Nat} {y:β},Paired F xs ys→ys[i]? = some y→∃ x,xs[i]? = some x∧F x y
 | _,_,_,_,.nil,e=>by simp at e
 | _,_,0,_,.cons r _,e=>by simp at e; subst e; exact ⟨_,rfl,r⟩
 | _,_,i+1,x,.cons _ t,e=>by
  obtain ⟨u,h1,h2⟩:=Pair.get' (i:=i) (y:=x) t (by simpa using e)
  exact ⟨u,by simpa using h1,h2⟩
theorem Pair.append {α β:Type} {F:α→β→Prop}:∀ {xs xs':List α} {ys ys':List β},Paired F xs ys→Paired F xs' ys'→Paired F (xs++xs') (ys++ys')
 | _,_,_,_,.nil,s=>s
 | _,_,_,_,.cons r t,s=>.cons r (Pair.append t s)
theorem Pair.take {α β:Type} {F:α→β→Prop}:∀ {xs:List α} {ys:List β} (n:Nat),Paired F xs ys→Paired F (xs.take n) (ys.take n)
 | _,_,0,_=>by simp; exact .nil
 | _,_,_+1,.nil=>.nil
 | _,_,n+1,.cons r t=>.cons r (Pair.take n t)
theorem Pair.drop {α β:Type} {F:α→β→Prop}:∀ {xs:List α} {ys:List β} (n:Nat),Paired F xs ys→Paired F (xs.drop n) (ys.drop n)
 | _,_,0,r=>r
 | _,_,_+1,.nil=>.nil
 | _,_,n+1,.cons _ t=>Pair.drop n t
theorem Pair.reverse {α β:Type} {F:α→β→Prop}:∀ {xs:List α} {ys:List β},Paired F xs ys→Paired F xs.reverse ys.reverse
 | _,_,.nil=>.nil
 | _,_,.cons r t=>by rw [List.reverse_cons,List.reverse_cons]; exact Pair.append (Pair.reverse t) (.cons r .nil)
theorem Pair.dropLast {α β:Type} {F:α→β→Prop} {xs:List α} {ys:List β} (r:Paired F xs ys):Paired F xs.dropLast ys.dropLast:=by
 rw [List.dropLast_eq_take,List.dropLast_eq_take,r.length]; exact Pair.take _ r
section
variable {X:Cx} {pins:List (Addr×Obj)} {σ:St} {H:Hp} {s:Shared}
theorem ns_one {h:Heap} {L:Addr} {m m':Str→Option Value} (a:h.Ns L m) (b:h.Ns L m'):m = m':=by
 obtain ⟨o,es,ep,ho,hd,hk,hm⟩:=a
 obtain ⟨o',es',ep',ho',hd',hk',hm'⟩:=b
 rw [ho] at ho'; cases ho'
 rw [hd] at hd'; cases hd'
 funext x
 rw [← hm x,← hm' x]
theorem news_keeps {h':Heap} {m:Str→Option Value} {more:List (Addr×Obj)} (I:Inv X pins σ H s) (F:Fr X.base X.env.locals h' m) (N:News X.base X.env.locals h' (more++allNews X.base s.heap X.env.locals)) :
  ∀ b o,b ≠ X.env.locals→s.heap.get? b = some o→h'.get? b = some o:=fun b o hb e=>by
 cases q:X.base.get? b with
 | some u =>
  have:=I.bk b u q
  rw [e] at this; cases this
  exact F.keep b _ q
 | none=>exact (N (b,o) (List.mem_append_right _ (mem_allNews hb q e))).1
theorem Inv.newsNew {h':Heap} {m:Str→Option Value} {D:Addr} {ob:Obj} {o:HO} {t':Nat} (I:Inv X pins σ H s) (hm:s.heap.Ns X.env.locals m) (F:Fr X.base X.env.locals h' m) (N:News X.base X.env.locals h' ((D,ob) :: allNews X.base s.heap X.env.locals))
  (hD:s.heap.get? D = none) (new:ObjOk X.prog X.w (upd H D o) h' D o):H D = none∧Inv X pins σ (upd H D o) { s with heap:=h',toks:=t' }:=by
 have kp:=news_keeps (more:=[(D,ob)]) I F N
 have nD:H D = none:=by
  cases q:H D with
  | none=>rfl
  | some u =>
   have:=I.hok.lt q
   obtain ⟨z⟩:Nonempty (∃ w,s.heap.get? D = some w):=⟨by
    have x:=I.hok D u q
    cases u with
    | lst xs=>obtain ⟨_,_,_,_,e⟩:=x; exact ⟨_,e⟩
    | tup xs=>obtain ⟨_,_,_,⟨ob,e,_⟩⟩:=x; exact ⟨_,e⟩
    | dK kvs=>obtain ⟨_,_,_,_,o,_,_,e,_⟩:=x; exact ⟨_,e⟩
    | dT kvs=>obtain ⟨_,_,_,_,o,_,_,e,_⟩:=x; exact ⟨_,e⟩
    | set S n=>obtain ⟨o,_,_,_,e,_⟩:=x; exact ⟨_,e⟩
    | ins C dx fs=>obtain ⟨_,_,_,e,_⟩:=x; exact ⟨_,e⟩
    | own y=>obtain ⟨_,e⟩:=x; exact ⟨_,e⟩
    | xd fs=>obtain ⟨_,⟨_,_,_,e,_⟩,_⟩:=x; exact ⟨_,e⟩
    | rng lo hi=>obtain ⟨_,_,_,e⟩:=x; exact ⟨_,e⟩
    | frz ob u=>obtain ⟨e,_⟩:=x; exact ⟨_,e⟩
    | tbl ps=>exact ⟨_,(show s.heap.get? D = some _ from x)⟩
    | met f y=>exact ⟨_,(show s.heap.get? D = some _ from x)⟩
    | ext φ=>obtain ⟨_,⟨_,e⟩,_⟩:=x; exact ⟨_,e⟩⟩
   obtain ⟨w,z⟩:=z
   rw [hD] at z; cases z
 have neD:∀ b u,H b = some u→b ≠ D:=fun b u e=>ne_of_none e nD
 have neL:∀ b u,H b = some u→b ≠ X.env.locals:=fun b u e=>ne_of_none e I.free
 refine ⟨nD,I.step (g':=s.gens) (d':=s.drawn) (ch:=[]) (fun _ z=>nomatch z) (fun b ob hb _ _ e _=>kp b ob hb e) (fun b ob hb _ _ e _=>⟨ob.slots,kp b ob hb e⟩) (fun b ob _ e n=>?_) (fun b ob _ e=>?_)
  (fun b xs e=>by rw [upd_ne (neD b _ e)]; exact e) (fun b ob u e=>by rw [upd_ne (neD b _ e)]; exact e) (fun b ps e=>⟨#[],by rw [upd_ne (neD b _ e),e]; simp⟩) (fun m' hm'=>?_) (fun b u e=>?_) I.bare⟩
 ·have:b ≠ D:=fun z=>by rw [z,hD] at e; cases e
  rw [upd_ne this]; exact n
 ·by_cases hb:b = X.env.locals
  ·obtain ⟨oL,_,_,hoL,_⟩:=F.ns
   exact ⟨oL,by rw [hb]; exact hoL⟩
  ·exact ⟨ob,kp b ob hb e⟩
 ·rw [← ns_one hm hm']; exact F.ns
 ·by_cases hb:b = D
  ·subst hb; rw [upd_same] at e; cases e; exact new
  ·rw [upd_ne hb] at e
   refine (I.hok b u e).stay (fun c v hc q=>?_) (fun c q=>by rw [upd_ne (neD c _ q)]; exact q) fun c xs q=>by rw [upd_ne (neD c _ q)]; exact q
   rcases hc with z | z
   ·rw [z] at q ⊢; exact kp b v (neL b u e) q
   ·exact kp c v (neL c _ z) q
end
end L2
set_option maxRecDepth 100000
namespace L2
open PySem PySem.Spec PyProof.Rows Geo PySem.W
def TupAt (h:Heap) (v:Value) (p:Pt):Prop:=∃ b o t u n,v = .ref b∧h.get? b = some o∧o.cls = .type "tuple"∧o.data = .seq #[.int p.1 t,.int p.2 u] n
theorem TupAt.at {h h':Heap} {v:Value} {p:Pt} (x:TupAt h v p) (k:∀ b o,v = .ref b→h.get? b = some o→h'.get? b = some o):TupAt h' v p:=by
 obtain ⟨b,o,t,u,n,e,g,c,d⟩:=x
 exact ⟨b,o,t,u,n,e,k b o e g,c,d⟩
theorem ltP_eq {p q:Pt} (h:p.1 = q.1):ltP p q = decide (p.2 < q.2):=by unfold ltP; simp [h]
theorem ltP_ne {p q:Pt} (h:p.1 ≠ q.1):ltP p q = decide (p.1 < q.1):=by unfold ltP; simp [h]
section
variable {prog:Program} {w:World} {A:Around} {E:Value→Shared→Prop} {s:Shared}
theorem lt_pts {x y:Value} {p q:Pt} {C:Bool→Shared→Prop} (hx:TupAt s.heap x p) (hy:TupAt s.heap y q) (h:C (ltP p q) s):wpAny (model prog w) A (keyLt' (tuples' true) x y) C E s:=by
 obtain ⟨b,o,t,u,n,rfl,g,c,d⟩:=hx
 obtain ⟨b',o',t',u',n',rfl,g',c',d'⟩:=hy
 refine kat_lt g d g' d' ?_
 refine kat_cons (SeqAt.EqAt.int_int p.1 t q.1 t' _ _ _ _ ?_)
 by_cases e:p.1 = q.1
 ·rw [e,beq_self_eq_true]
  refine kat_yes (kat_cons (SeqAt.EqAt.int_int p.2 u q.2 u' _ _ _ _ ?_))
  rw [ltP_eq e] at h
  by_cases e2:p.2 = q.2
  ·rw [e2,beq_self_eq_true]
   refine kat_yes (kat_nil ?_)
   rw [e2,decide_eq_false (Int.lt_irrefl _)] at h
   exact h
  ·rw [beq_eq_false_iff_ne.mpr e2]
   refine kat_no (kat_one _ _ (lt_int ?_))
   exact h
 ·rw [beq_eq_false_iff_ne.mpr e]
  refine kat_no (oneLt_int ?_)
  rw [ltP_ne e] at h
  exact h
theorem sort_core {vs:List Value} {ps:List Pt} (hp:Paired (TupAt s.heap) vs ps) (h2:0 < vs.length) {G:Array Nat→Shared→Prop} (hG:∀ p:Array Nat,Srt.Ok vs.length p→Srt.Up (fun i=>ps.getD i (0,0)) p vs.length→G p s) :
  wpAny (model prog w) A (keyKind' vs.toArray) (fun κ s'=>(kas_sort vs.length).kasWp (kas_ask prog w A κ vs) G s') (fun _ _=>False) s:=by
 have tups:∀ {vs:List Value} {ps:List Pt},Paired (TupAt s.heap) vs ps→∃ fs,KatTups s.heap vs fs∧fs.length = vs.length∧∀ v ∈ fs,∃ i t,v = Value.int i t:=by
  intro vs ps h
  induction h with
  | nil=>exact ⟨[],KatTups.nil,rfl,fun v hv=>by simp at hv⟩
  | cons r _ ih =>
   obtain ⟨fs,a1,a2,a3⟩:=ih
   obtain ⟨b,o,t,u,n,rfl,g,c,d⟩:=r
   refine ⟨.int _ t :: fs,KatTups.cons g c d (by rfl) a1,by simp [a2],fun v hv=>?_⟩
   rcases List.mem_cons.mp hv with z | z
   ·exact ⟨_,_,z⟩
   ·exact a3 v z
 obtain ⟨fs,t1,t2,t3⟩:=tups hp
 refine kat_kind (T:=.type "int") t1 (by omega) (fun v hv=>?_) rfl ?_
 ·obtain ⟨i,t,rfl⟩:=t3 v hv
  exact .now
 ·refine Srt.sort_ok h2 (fun i j C hi hj hC=>?_) hG
  have at':∀ i,i < vs.length→TupAt s.heap (vs.getD i Value.none) (ps.getD i (0,0)):=fun i hi=>by
   obtain ⟨p,e1,e2⟩:=Pair.get (i:=i) (x:=vs[i]) hp (by simp [hi])
   rw [List.getD_eq_getElem?_getD,List.getD_eq_getElem?_getD,e1]
   simp [hi]
   exact e2
  exact lt_pts (at' i hi) (at' j hj) hC
theorem sorted_out {h:Heap} {vs:List Value} {ps:List Pt} (hp:Paired (TupAt h) vs ps) {p:Array Nat} (o:Srt.Ok vs.length p) (u:Srt.Up (fun i=>ps.getD i (0,0)) p vs.length) :
  Paired (TupAt h) (p.toList.map fun i=>vs.getD i Value.none) (sortP ps)∧(p.toList.map fun i=>vs.getD i Value.none).Perm vs:=by
 have hl:=hp.length
 have pm:p.toList.Perm (List.range vs.length):=by
  have:=o.perm
  exact (Array.perm_iff_toList_perm.mp this).trans (by simp)
 have get_range:∀ {α:Type} (d:α) (l:List α),(List.range l.length).map (fun i=>l.getD i d) = l:=fun {α} d l=>by
  apply List.ext_getElem?
  intro i
  rw [List.getElem?_map]
  by_cases h:i < l.length
  ·simp [h]
  ·simp [h]
 have e1:(p.toList.map fun i=>ps.getD i (0,0)) = sortP ps:=by
  refine sortP_unique ?_ ?_
  ·have:=pm.map (fun i=>ps.getD i ((0,0):Pt))
   rw [hl,get_range] at this
   exact this
  ·rw [List.pairwise_map]
   rw [List.pairwise_iff_getElem]
   intro i j hi hj hij
   have szp:p.size = vs.length:=o.size
   have q:=u i j (by omega) (by rw [← szp]; simpa using hj)
   unfold Srt.kat at q
   have hi':i < p.size:=by simpa using hi
   have hj':j < p.size:=by simpa using hj
   rw [show p.getD i 0 = p[i] by simp [Array.getD,hi'],show p.getD j 0 = p[j] by simp [Array.getD,hj']] at q
   simpa using q
 constructor
 ·rw [← e1]
  have go:∀ l:List Nat,(∀ i ∈ l,i < vs.length)→Paired (TupAt h) (l.map fun i=>vs.getD i Value.none) (l.map fun i=>ps.getD i (0,0)):=by
   intro l
   induction l with
   | nil=>intro _; exact .nil
   | cons i l ih =>
    intro hl'
    refine .cons ?_ (ih fun j hj=>hl' j (List.mem_cons_of_mem _ hj))
    have hi:=hl' i List.mem_cons_self
    obtain ⟨q,e1,e2⟩:=Pair.get (i:=i) (x:=vs[i]) hp (by simp [hi])
    show TupAt h (vs.getD i Value.none) (ps.getD i (0,0))
    rw [List.getD_eq_getElem?_getD,List.getD_eq_getElem?_getD,e1]
    simp [hi]
    exact e2
  exact go _ fun i hi=>by have:=pm.mem_iff.mp hi; simpa using this
 ·have:=pm.map (fun i=>vs.getD i Value.none)
  rw [get_range] at this
  exact this
theorem sort_small {a:Addr} {vs:List Value} {n:Nat} {P:PySem.Fin→Shared→Prop} (ho:s.heap.get? a = some (seqObj "list" vs.toArray n)) (h2:vs.length < 2)
  (h:∀ h' c,(∀ b o,b ≠ a→s.heap.get? b = some o→h'.get? b = some o)→h'.get? a = some (seqObj "list" vs.toArray c)→P (.done (.ret .none)) { s with heap:=h' }):wpAny (model prog w) A (Builtin.«list.sort» ⟨[.ref a],[]⟩) P E s:=by
 rw [list_sort_plain]
 have ha:a < s.heap.objs.size:=Heap.lt_size ho
 refine wpAny_bind (listItems_at ho rfl (wpAny_bind (listUpdate_at ho rfl ?_ (by rw [List.size_toArray,sizeLine_eq]; omega) (Nat.zero_le _))))
 obtain ⟨e1,ho1⟩:∃ e1,(s.heap.update a (Obj.mapSeq fun _=>#[])).get? a = some (seqObj "list" #[] e1):=⟨_,get?_update_seq ho (fun _=>(#[]:Array Value))⟩
 refine wpAny_bind (seqEpoch_at ho1 rfl (wpAny_bind (wpAny_newTuple (wpAny_bind (wpAny_newList (wpAny_holding ?_) (Nat.zero_le _))) (by show vs.length≤_; rw [sizeLine_eq]; omega))))
 have ho6:(((s.heap.update a (Obj.mapSeq fun _=>(#[]:Array Value))).push (seqObj "tuple" vs.toArray 0)).push (seqObj "list" #[] 0)).get? a = some (seqObj "list" #[] e1):=Heap.get?_push_of_some _ (Heap.get?_push_of_some _ ho1)
 show wpAny (model prog w) A _ P E ({ s with heap:=((s.heap.update a (Obj.mapSeq fun _=>(#[]:Array Value))).push (seqObj "tuple" vs.toArray 0)).push (seqObj "list" #[] 0) }:Shared)
 dsimp only
 have hs2:vs.toArray.size < 2:=by rw [List.size_toArray]; exact h2
 rw [if_pos hs2,if_pos hs2]
 refine wpAny_bind (wpAny_pure ?_)
 rw [StateT.run_pure]
 refine wpAny_bind (wpAny_pure ?_)
 dsimp only
 have hz:(Array.map (fun x:Value×Value=>x.snd) (vs.toArray.zip vs.toArray)) = vs.toArray:=by
  apply Array.toList_inj.mp
  simp [List.map_snd_zip]
 refine wpAny_bind (seqEpoch_at ho6 rfl ?_)
 have ez:(fun _:Array Value=>Array.map (fun x:Value×Value=>x.snd) (arrOf (SortSt.mk' general' (vs.toArray.zip vs.toArray) #[] 7 none))) = fun _=>vs.toArray:=funext fun _=>hz
 rw [ez]
 refine wpAny_bind (listUpdate_at ho6 rfl ?_ (Nat.zero_le _) (by rw [List.size_toArray,sizeLine_eq]; omega))
 rw [if_neg (by simp)]
 refine wpAny_pure (h _ _ (fun b o hb e=>?_) (get?_update_seq ho6 fun _=>vs.toArray))
 rw [Heap.get?_update_other _ _ (Ne.symm hb)]
 exact Heap.get?_push_of_some _ (Heap.get?_push_of_some _ ((Heap.get?_update_other _ _ (Ne.symm hb)).trans e))
end
section
variable {X:Cx} {pins:List (Addr×Obj)} {σ:St} {H:Hp} {s:Shared}
theorem Inv.tupAt (I:Inv X pins σ H s) {v:V} {u:Value} {p:Pt} (r:RelV v u) (h:IsPt H v p):TupAt s.heap u p:=by
 obtain ⟨a,rfl,h⟩:=h
 obtain rfl:u = Value.ref a:=r
 obtain ⟨_,its,rv,ob,e,c,n,d⟩:=I.hok a _ h
 cases rv with
 | cons r1 rv =>
  cases rv with
  | cons r2 rv =>
   cases rv
   obtain ⟨t,rfl⟩:=r1
   obtain ⟨t',rfl⟩:=r2
   exact ⟨a,ob,t,t',n,rfl,e,c,d⟩
theorem Inv.tupsAt (I:Inv X pins σ H s):∀ {vs:List V} {us:List Value} {ps:List Pt},Vals vs us→ArePts H vs ps→Paired (TupAt s.heap) us ps
 | _,_,_,.nil,.nil=>.nil
 | _,_,_,.cons r t,.cons h k=>.cons (I.tupAt r h) (I.tupsAt t k)
theorem vals_of_sub {vs:List V} {us zs:List Value} {ps qs:List Pt} {h:Heap} (rv:Vals vs us) (hp:ArePts H vs ps) (ht:Paired (TupAt h) us ps) (hz:Paired (TupAt h) zs qs) (hs:∀ z ∈ zs,z ∈ us) :
  ∃ ws,Vals ws zs∧ArePts H ws qs∧∀ w ∈ ws,w ∈ vs:=by
 induction hz with
 | nil=>exact ⟨[],.nil,.nil,fun w hw=>by simp at hw⟩
 | @cons z q zs qs hzq _ ih =>
  obtain ⟨ws,a1,a2,a3⟩:=ih fun z hz=>hs z (List.mem_cons_of_mem _ hz)
  obtain ⟨i,hi⟩:=List.mem_iff_getElem?.mp (hs z List.mem_cons_self)
  obtain ⟨p,hp1,hp2⟩:=Pair.get ht hi
  obtain ⟨v,hv1,hv2⟩:=Pair.get' rv hi
  obtain ⟨p',hq1,hq2⟩:=Pair.get hp hv1
  rw [hp1] at hq1; cases hq1
  have:p = q:=by
   obtain ⟨b,o,t,u,n,e,g,c,d⟩:=hp2
   obtain ⟨b',o',t',u',n',e',g',c',d'⟩:=hzq
   rw [e] at e'; cases e'
   rw [g] at g'; cases g'
   rw [d] at d'
   injection d' with d1 _
   have d2:=congrArg Array.toList d1
   simp at d2
   exact Prod.ext d2.1.1 d2.2.1
  subst this
  refine ⟨v :: ws,.cons hv2 a1,.cons hq2 a2,fun w hw=>?_⟩
  rcases List.mem_cons.mp hw with z | z
  ·rw [z]; exact List.mem_of_getElem? hv1
  ·exact a3 w z
theorem sortP_small {ps:List Pt} (h:ps.length < 2):sortP ps = ps:=by
 refine (sortP_unique (List.Perm.refl _) ?_).symm
 match ps,h with
 | [],_=>exact List.Pairwise.nil
 | [p],_=>exact List.pairwise_singleton _ _
 | _ :: _ :: _,h=>simp at h; omega
theorem call_sortedP (hu:X.A.units+16 < cLine):CallR X (.builtin "sorted") (fun xs H Q=>∃ p ys ps,xs = [.ref p]∧SqL X.K H p ys∧ArePts H ys ps∧ps.length < 64∧∀ l zs,H l = none→ArePts H zs (sortP ps)→(∀ z ∈ zs,z ∈ ys)→Q (.ref l) (upd H l (.lst zs))):=by
 intro pins s σ H xs us Q I rv h
 obtain ⟨p,ys,ps,rfl,hq,hp,hlen,k⟩:=h
 cases rv with
 | cons r1 rv =>
  cases rv
  obtain rfl:=r1
  obtain ⟨its,r,pl,hz⟩:=I.list hq
  have tp:=I.tupsAt r hp
  have hl:=r.length
  have hl2:=hp.length
  obtain ⟨m,F⟩:=I.fr
  by_cases h2:2≤its.length
  ·refine kat_sorted F (news_all (h:=s.heap)) pl.isList h2 (by omega) fun D e1 h' F' N' hlt=>?_
   have kp:=news_keeps (more:=[(D,seqObj "list" #[] e1)]) I F' N'
   have nD:s.heap.get? D = none:=by
    cases q:s.heap.get? D with
    | none=>rfl
    | some o =>
     have z:=N' (D,seqObj "list" #[] e1) List.mem_cons_self
     exact absurd (hlt (D,o) (mem_allNews z.2.1 z.2.2 q)) (Nat.lt_irrefl _)
   have tp':Paired (TupAt h') its ps:=Paired.mapP tp fun v q x=>x.at fun b o e g=>kp b o (fun z=>by
    obtain ⟨b',o',_,_,_,e',g',_,d'⟩:=x
    rw [e] at e'; cases e'
    obtain ⟨mL,⟨oL,esL,epL,hoL,hdL,_⟩,_⟩:=I.loc
    rw [z,hoL] at g'; cases g'
    rw [hdL] at d'; cases d') g
   refine sort_core (s:={ s with heap:=h' }) tp' (by omega) fun pm ok up=>?_
   obtain ⟨so,sp⟩:=sorted_out tp ok up
   refine KasFin.intro F' N' (UpdF.head fun q hq=>Nat.ne_of_lt (hlt q hq)) fun h2' c F2 N2=>?_
   obtain ⟨ws,w1,w2,w3⟩:=vals_of_sub r hp tp so fun z hz=>sp.mem_iff.mp hz
   have wl:ws.length≤sizeLine:=by
    have e1:=w1.length
    have e2:=sp.length_eq
    rw [sizeLine_eq]; omega
   obtain ⟨n0,I2⟩:=I.newsNew (o:=.lst ws) (t':=s.toks) F.ns F2 N2 nD ⟨wl,_,c,w1,(N2 (D,_) List.mem_cons_self).1⟩
   exact ⟨.ref D,_,I2,rfl,k D ws n0 w2 w3⟩
  ·refine Calls.call_function_entry kind_sorted plain_sorted entry_sorted (args_sorted1 _) ?_
   unfold Builtin.«sorted»
   refine wpAny_bind (m:=checkCount "sorted" 1 1 _) (wpAny_pure (wpAny_bind (collect_list pl.isList (wpAny_bind (wpAny_newList ?_ (by rw [sizeLine_eq]; omega))) (by rw [sizeLine_eq]; omega))))
   have hsz:((s.heap.push (seqObj "list" #[] 0)).update s.heap.objs.size (Obj.mapSeq (·++its.toArray))).objs.size = s.heap.objs.size+1:=by rw [Heap.size_update,size_push']
   have hoL:(((s.heap.push (seqObj "list" #[] 0)).update s.heap.objs.size (Obj.mapSeq (·++its.toArray))).push (seqObj "list" its.toArray 0)).get? (s.heap.objs.size+1) = some (seqObj "list" its.toArray 0):=by rw [← hsz]; exact Heap.get?_push_size _ rfl
   show wpAny _ _ _ _ _ ({ s with heap:=((s.heap.push (seqObj "list" #[] 0)).update s.heap.objs.size (Obj.mapSeq (·++its.toArray))).push (seqObj "list" its.toArray 0) }:Shared)
   rw [hsz]
   refine wpAny_bind (wpAny_holding (wpAny_call_entry slot_list_sort ⟨_,hoL,rfl⟩ entry_list_sort (sort_small hoL (by omega) fun h' c kp g=>⟨_,rfl,wpAny_pure ⟨_,rfl,?_⟩⟩) (args_list_sort _)))
   have hps:sortP ps = ps:=sortP_small (by omega)
   have n0:H (s.heap.objs.size+1) = none:=I.hok.fresh (Nat.le_succ _)
   refine ⟨.ref (s.heap.objs.size+1),_,I.laid (t':=s.toks) (o:=.lst ys) (fun b u e=>kp b u (Nat.ne_of_lt (Nat.lt_succ_of_lt (Heap.lt_size e))) ?_) (Nat.le_succ _) ⟨by rw [sizeLine_eq]; omega,its,c,r,g⟩,rfl,k _ ys n0 (by rw [hps]; exact hp) fun z hz=>hz⟩
   have hlt:=Heap.lt_size e
   rw [Heap.get?_push_ne _ _ _ (by rw [hsz]; exact Nat.ne_of_lt (Nat.lt_succ_of_lt hlt)),Heap.get?_update_ne _ _ _ _ (Nat.ne_of_lt hlt),Heap.get?_push_ne _ _ _ (Nat.ne_of_lt hlt)]
   exact e
end
end L2
set_option maxRecDepth 100000
namespace L2
open PySem PySem.Spec PyProof.Rows Geo PySem.W STab
section
variable {prog:Program} {w:World} {h:Heap}
theorem TupAt.key {v:Value} {p:Pt} (x:TupAt h v p):KeyOf prog w h v [p.1,p.2]:=by
 obtain ⟨b,o,t,u,n,e,g,c,d⟩:=x
 exact ⟨b,e,o,_,n,g,c,d,.cons (by simp [intKind,Value.isInt]) (.cons (by simp [intKind,Value.isInt]) .nil)⟩
theorem TupAt.inj {v:Value} {p q:Pt} (x:TupAt h v p) (y:TupAt h v q):p = q:=by
 obtain ⟨b,o,t,u,n,e,g,c,d⟩:=x
 obtain ⟨b',o',t',u',n',e',g',c',d'⟩:=y
 rw [e] at e'; cases e'
 rw [g] at g'; cases g'
 rw [d] at d'
 injection d' with d1 _
 have d2:=congrArg Array.toList d1
 simp at d2
 exact Prod.ext d2.1.1 d2.2.1
theorem pts_of_set {items:List Value} {ps:List Pt} (hp:Paired (TupAt h) items ps):∀ {l:List (En Value)},(∀ e ∈ l,e.2 ∈ items)→l.Pairwise (fun e f=>∀ ks,KeyOf prog w h e.2 ks→¬ KeyOf prog w h f.2 ks) →
  ∃ qs,Paired (TupAt h) (l.map (·.2)) qs∧qs.Nodup∧∀ x,x ∈ qs↔∃ e ∈ l,TupAt h e.2 x
 | [],_,_=>⟨[],.nil,List.nodup_nil,fun x=>by simp⟩
 | e :: l,hin,hpw=>by
  obtain ⟨h1,h2⟩:=List.pairwise_cons.mp hpw
  obtain ⟨qs,a1,a2,a3⟩:=pts_of_set hp (fun f hf=>hin f (List.mem_cons_of_mem _ hf)) h2
  obtain ⟨i,hi⟩:=List.mem_iff_getElem?.mp (hin e List.mem_cons_self)
  obtain ⟨q,_,hq⟩:=Pair.get hp hi
  refine ⟨q :: qs,.cons hq a1,List.nodup_cons.mpr ⟨fun hm=>?_,a2⟩,fun x=>?_⟩
  ·obtain ⟨f,hf,hf2⟩:=(a3 q).mp hm
   exact h1 f hf [q.1,q.2] hq.key hf2.key
  ·rw [List.mem_cons,a3 x]
   constructor
   ·rintro (rfl | ⟨f,hf,hx⟩)
    ·exact ⟨e,List.mem_cons_self,hq⟩
    ·exact ⟨f,List.mem_cons_of_mem _ hf,hx⟩
   ·rintro ⟨f,hf,hx⟩
    rcases List.mem_cons.mp hf with z | z
    ·rw [z] at hx
     exact .inl (hx.inj hq)
    ·exact .inr ⟨f,z,hx⟩
end
def tSortSet (K:PySem.W.Frag) (te:TE):TE:=fun σ H Q=>te σ H fun x H1=>∃ p ys ps,x = .ref p∧SqL K H1 p ys∧ArePts H1 ys ps∧ps.length≤16∧∀ l zs,H1 l = none→ArePts H1 zs (uniqP ps)→(∀ z ∈ zs,z ∈ ys)→Q (.ref l) (upd H1 l (.lst zs))
theorem pe_sortset {X:Cx} {e:Expr} {te:TE} {p1 p2 pos1 pos2:Pos} (hu:X.A.units+16 < cLine) (hh:X.A.handled = none) (hg1:Gl X "sorted") (hm1:X.mg "sorted" = none) (hg2:Gl X "set") (hm2:X.mg "set" = none) (he:PE X e te)
  (hs:starEach [e] X.env = [(false,eval e X.env)]:=by rfl) :
  PE X (.Call (.Name "sorted" p1) [.Call (.Name "set" p2) [e] [] pos2] [] pos1) (tSortSet X.K te):=by
 intro pins s σ H Q I h
 refine wpAny_Call_Name_kw (ld_blt I hg1 hm1 boot_sorted ?_)
 refine callWith_builtin1 ?_ rfl rfl
 show wpAny _ _ (spliced ((false,eval (.Call (.Name "set" p2) [e] [] pos2) X.env) :: [])) _ _ _
 refine Calls.spliced_cons ?_
 refine wpAny_Call_Name_kw (ld_blt I hg2 hm2 boot_set ?_)
 refine callWith_type1 ?_ hs rfl
 rw [hs]
 show wpAny _ _ (spliced ((false,eval e X.env) :: [])) _ _ _
 refine Calls.spliced_cons (thn (he pins s σ H _ I h) fun u s1 ⟨x,H1,I1,r1,p,ys,ps,ex,hq,hp,hlen,k⟩=>?_)
 subst ex
 obtain rfl:u = Value.ref p:=r1
 refine Calls.spliced_nil ?_
 obtain ⟨its,r,pl,hz⟩:=I1.list hq
 have tp:=I1.tupsAt r hp
 have hl:=r.length
 have hl2:=hp.length
 refine call_set_tups (kss:=ps.map fun q=>[q.1,q.2]) hh (by omega) pl.isList (fun i v hv=>?_) (by simp; omega) (by simp; omega) fun h2 tk2 es ep t M T mb kp2=>?_
 ·obtain ⟨q,e1,e2⟩:=Pair.get (i:=i) (x:=v) tp (by simpa using hv)
  obtain ⟨b,e3,e4⟩:=e2.key (prog:=X.prog) (w:=X.w)
  exact ⟨[q.1,q.2],b,by rw [List.getElem?_map,e1]; rfl,e3,e4⟩
 refine Calls.spliced_nil ?_
 have I2:Inv X pins σ H1 { s1 with heap:=h2,toks:=tk2 }:=I1.kept fun b u e=>kp2 b u (Heap.lt_size e) e
 have tp2:Paired (TupAt h2) its ps:=Paired.mapP tp fun v q x=>x.at fun b o _ g=>kp2 b o (Heap.lt_size g) g
 obtain ⟨m,F⟩:=I2.fr
 have szes:es.size≤16:=by
  have:=mb.size
  rw [List.length_map,Array.length_toList] at this
  omega
 have hin:∀ e ∈ (ordS X.w s1.heap.objs.size ep es).toList,e.2 ∈ its:=fun e he=>by
  have:=(mb.into e ((ordS_perm _ _ _ _).mem_iff.mp he)).1
  simpa using this
 obtain ⟨qs,q1,q2,q3⟩:=pts_of_set (prog:=X.prog) (w:=X.w) tp hin (((ordS_perm X.w s1.heap.objs.size ep es).pairwise_iff (fun {x y} hxy a hy hx=>hxy a hx hy)).mpr mb.once)
 have hmem:∀ x,x ∈ qs↔x ∈ ps:=fun x=>by
  rw [q3 x]
  constructor
  ·rintro ⟨e,he,hx⟩
   obtain ⟨i,hi⟩:=List.mem_iff_getElem?.mp (hin e he)
   obtain ⟨y,hy1,hy2⟩:=Pair.get tp hi
   rw [hx.inj hy2]; exact List.mem_of_getElem? hy1
  ·intro hx
   obtain ⟨e,he,hk⟩:=mb.onto [x.1,x.2] (List.mem_map.mpr ⟨x,hx,rfl⟩)
   have he':=(ordS_perm X.w s1.heap.objs.size ep es).mem_iff.mpr he
   refine ⟨e,he',?_⟩
   obtain ⟨i,hi⟩:=List.mem_iff_getElem?.mp (hin e he')
   obtain ⟨y,hy1,hy2⟩:=Pair.get tp hi
   have e2:=hk.inj hy2.key
   simp at e2
   rw [show x = y from Prod.ext e2.1 e2.2]; exact hy2
 have huq:sortP qs = uniqP ps:=uniqP_unique ((sortP_perm qs).nodup_iff.mpr q2) (fun x=>(sortP_perm qs).mem_iff.trans (hmem x)) (sortP_pw qs)
 have eord:∀ vs:List Value,vs.length = es.size→(∀ (j:Nat) (v:Value),vs[j]? = some v→∃ e,(ordS X.w s1.heap.objs.size ep es)[j]? = some e∧e.2 = v)→vs = (ordS X.w s1.heap.objs.size ep es).toList.map (·.2):=fun vs h1 h2=>by
  apply List.ext_getElem?
  intro j
  rw [List.getElem?_map]
  by_cases hj:j < vs.length
  ·obtain ⟨e,e1,e2⟩:=h2 j vs[j] (by simp [hj])
   have e1':(ordS X.w s1.heap.objs.size ep es).toList[j]? = some e:=by simpa using e1
   rw [e1',List.getElem?_eq_getElem hj,← e2]; rfl
  ·have hlo:(ordS X.w s1.heap.objs.size ep es).toList.length = es.size:=by rw [Array.length_toList,ordS_size]
   rw [List.getElem?_eq_none (by omega),List.getElem?_eq_none (by omega)]; rfl
 refine kdu_sorted (s:={ s1 with heap:=h2,toks:=tk2 }) (src_set s1.heap.objs.size es ep t M) hh F (news_all (h:=h2)) T.zero (by rw [sizeLine_eq]; omega) fun D h3 tk3 vs F3 N3 hlt hvl hvp=>?_
 have evs:=eord vs hvl hvp
 subst evs
 have kp3:=news_keeps (more:=[(D,listOf ((ordS X.w s1.heap.objs.size ep es).toList.map (fun x:En Value=>x.snd)).toArray 0)]) I2 F3 N3
 have nD:h2.get? D = none:=by
  cases q:h2.get? D with
  | none=>rfl
  | some o =>
   have z:=N3 (D,_) List.mem_cons_self
   exact absurd (hlt (D,o) (mem_allNews z.2.1 z.2.2 q)) (Nat.lt_irrefl _)
 have up:∀ {v:Value} {q:Pt},TupAt s1.heap v q→TupAt h3 v q:=fun {v q} x=>(x.at fun b o _ g=>kp2 b o (Heap.lt_size g) g:TupAt h2 v q).at fun b o e g=>kp3 b o (fun z=>by
  obtain ⟨b',o',_,_,_,e',g',_,d'⟩:=(x.at fun b o _ g=>kp2 b o (Heap.lt_size g) g:TupAt h2 v q)
  rw [e] at e'; cases e'
  obtain ⟨mL,⟨oL,esL,epL,hoL,hdL,_⟩,_⟩:=I2.loc
  have hoL':h2.get? X.env.locals = some oL:=hoL
  rw [z,hoL'] at g'; cases g'
  rw [hdL] at d'; cases d') g
 have ho3:=(N3 (D,_) List.mem_cons_self).1
 have vlen:((ordS X.w s1.heap.objs.size ep es).toList.map (·.2)).length≤16:=by rw [List.length_map,Array.length_toList,ordS_size]; exact szes
 have subi:∀ z ∈ (ordS X.w s1.heap.objs.size ep es).toList.map (·.2),z ∈ its:=fun z hz=>by
  obtain ⟨e,he,rfl⟩:=List.mem_map.mp hz
  exact hin e he
 by_cases h2':2≤((ordS X.w s1.heap.objs.size ep es).toList.map (·.2)).length
 ·refine kat_lsort (s:={ s1 with heap:=h3,toks:=tk3 }) F3 N3 (UpdF.head fun q hq=>Nat.ne_of_lt (hlt q hq)) (by simp) h2' (by omega) fun e1 h4 F4 N4=>?_
  have tp4:Paired (TupAt h4) ((ordS X.w s1.heap.objs.size ep es).toList.map (·.2)) qs:=Paired.mapP q1 fun v q x=>(up x).at fun b o e g=>by
   have g2:h2.get? b = some o:=by
    obtain ⟨b',o',_,_,_,e',g',_,d'⟩:=(x.at fun b o _ g=>kp2 b o (Heap.lt_size g) g:TupAt h2 v q)
    rw [e] at e'; cases e'
    have nb:b ≠ X.env.locals:=fun z=>by
     obtain ⟨mL,⟨oL,esL,epL,hoL,hdL,_⟩,_⟩:=I2.loc
     have hoL':h2.get? X.env.locals = some oL:=hoL
     rw [z,hoL'] at g'; cases g'
     rw [hdL] at d'; cases d'
    have:=kp3 b o' nb g'
    rw [g] at this; cases this; exact g'
   refine news_keeps (more:=[(D,seqObj "list" #[] e1)]) I2 F4 N4 b o (fun z=>?_) g2
   obtain ⟨b',o',_,_,_,e',g',_,d'⟩:=(x.at fun b o _ g=>kp2 b o (Heap.lt_size g) g:TupAt h2 v q)
   rw [e] at e'; cases e'
   obtain ⟨mL,⟨oL,esL,epL,hoL,hdL,_⟩,_⟩:=I2.loc
   have hoL':h2.get? X.env.locals = some oL:=hoL
   rw [z,hoL'] at g'; cases g'
   rw [hdL] at d'; cases d'
  refine sort_core (s:={ s1 with heap:=h4,toks:=tk3 }) tp4 (by omega) fun pm ok upm=>?_
  obtain ⟨so,sp⟩:=sorted_out q1 ok upm
  refine KasFin.intro F4 N4 (UpdF.head fun q hq=>Nat.ne_of_lt (hlt q hq)) fun h5 c F5 N5=>?_
  rw [huq] at so
  obtain ⟨ws,w1,w2,w3⟩:=vals_of_sub r hp tp so fun z hz=>subi z (sp.mem_iff.mp hz)
  have wl:ws.length≤sizeLine:=by
   have e1:=w1.length
   have e2:=sp.length_eq
   rw [sizeLine_eq]; omega
  obtain ⟨n0,I5⟩:=I2.newsNew (o:=.lst ws) (t':=tk3) F.ns F5 N5 nD ⟨wl,_,c,w1,(N5 (D,_) List.mem_cons_self).1⟩
  exact ⟨.ref D,_,I5,rfl,k D ws n0 w2 w3⟩
 ·refine wpAny_call_entry slot_list_sort ⟨_,ho3,rfl⟩ entry_list_sort (sort_small (s:={ s1 with heap:=h3,toks:=tk3 }) ho3 (by omega) fun h5 c kp5 g5=>⟨_,rfl,?_⟩) (args_list_sort _)
  have qlen:qs.length < 2:=by have:=q1.length; omega
  rw [sortP_small qlen] at huq
  subst huq
  obtain ⟨ws,w1,w2,w3⟩:=vals_of_sub r hp tp q1 subi
  have wl:ws.length≤sizeLine:=by
   have e1:=w1.length
   rw [sizeLine_eq]; omega
  have F5:Fr X.base X.env.locals h5 m:=⟨F3.ns.at' fun o e=>kp5 _ o (Ne.symm (N3 (D,_) List.mem_cons_self).2.1) e,fun b o e=>kp5 b o (fun z=>by
   have:=(N3 (D,_) List.mem_cons_self).2.2
   rw [z] at e
   have e':X.base.get? D = some o:=e
   rw [e'] at this; cases this) (F3.keep b o e),F3.above⟩
  have N5:News X.base X.env.locals h5 ((D,seqObj "list" ((ordS X.w s1.heap.objs.size ep es).toList.map (·.2)).toArray c) :: allNews X.base h2 X.env.locals):=fun q hq=>by
   rcases List.mem_cons.mp hq with z | z
   ·rw [z]; exact ⟨g5,(N3 (D,_) List.mem_cons_self).2⟩
   ·have n3:=N3 q (List.mem_cons_of_mem _ z)
    exact ⟨kp5 _ _ (Nat.ne_of_lt (hlt q z)) n3.1,n3.2⟩
  obtain ⟨n0,I5⟩:=I2.newsNew (o:=.lst ws) (t':=tk3) F.ns F5 N5 nD ⟨wl,_,c,w1,g5⟩
  exact ⟨.ref D,_,I5,rfl,k D ws n0 w2 w3⟩
end L2
set_option maxRecDepth 100000
namespace L2
open PySem PySem.Spec PyProof.Rows Geo PySem.W STab
section
variable {A:Around} {s:Shared}
theorem pair_all (p q:Pt):((List.range (min (#[Value.int p.1 0,Value.int p.2 0]:Array Value).size (#[Value.int q.1 0,Value.int q.2 0]:Array Value).size)).all (fun j=>if j = 0 then p.1 == q.1 else p.2 == q.2) && (#[Value.int p.1 0,Value.int p.2 0]:Array Value).size == (#[Value.int q.1 0,Value.int q.2 0]:Array Value).size) = decide (p = q):=by
 have e:(List.range (min (#[Value.int p.1 0,Value.int p.2 0]:Array Value).size (#[Value.int q.1 0,Value.int q.2 0]:Array Value).size)) = [0,1]:=rfl
 rw [e]
 by_cases h:p = q
 ·subst h; simp
 ·rw [decide_eq_false h]
  by_cases h1:p.1 = q.1
  ·have h2:p.2 ≠ q.2:=fun z=>h (Prod.ext h1 z)
   simp [h1,h2]
  ·simp [h1]
theorem rc_pt {u v:Value} {p q:Pt} (hu:A.units < cLine) (x:TupAt s.heap u p) (y:TupAt s.heap v q):SeqAt.RcAt A s u v (decide (p = q)):=by
 obtain ⟨b,o,t,t',n,rfl,g,c,d⟩:=x
 obtain ⟨b',o',t2,t2',n',rfl,g',c',d'⟩:=y
 rw [← pair_all]
 refine SeqAt.RcAt.tuples (items:=#[.int p.1 t,.int p.2 t']) (items2:=#[.int q.1 t2,.int q.2 t2']) ⟨o,g,c,n,d⟩ ⟨o',g',c',n',d'⟩ hu fun j h1 h2=>?_
 match j,h1,h2 with
 | 0,_,_=>exact SeqAt.EqAt.int_int _ _ _ _
 | 1,_,_=>exact SeqAt.EqAt.int_int _ _ _ _
theorem eq_pt {u v:Value} {p q:Pt} (hu:A.units < cLine) (x:TupAt s.heap u p) (y:TupAt s.heap v q):SeqAt.EqAt A s u v (decide (p = q)):=by
 have r:=rc_pt hu x y
 obtain ⟨b,o,t,t',n,rfl,g,c,d⟩:=id x
 obtain ⟨b',o',t2,t2',n',rfl,g',c',d'⟩:=id y
 by_cases e:b = b'
 ·subst e
  rw [decide_eq_true (x.inj y)]
  exact SeqAt.EqAt.same _
 ·exact SeqAt.EqAt.of_refs e r
theorem pair_range {us vs:List Value} {ps qs:List Pt} {h:Heap} (x:Paired (TupAt h) us ps) (y:Paired (TupAt h) vs qs) (hl:us.length = vs.length) :
  ((List.range us.toArray.size).all fun j=>decide (ps.getD j (0,0) = qs.getD j (0,0))) = decide (ps = qs):=by
 have l1:=x.length
 have l2:=y.length
 rw [Bool.eq_iff_iff,List.all_eq_true,decide_eq_true_iff]
 constructor
 ·intro h
  apply List.ext_getElem
  ·omega
  ·intro j h1 h2
   have:=of_decide_eq_true (h j (by simp; omega))
   simpa [h1,h2] using this
 ·rintro rfl j _
  exact decide_eq_true rfl
theorem eq_pts_at {us vs:List Value} {ps qs:List Pt} (hu:A.units < cLine) (x:Paired (TupAt s.heap) us ps) (y:Paired (TupAt s.heap) vs qs) (j:Nat) (h1:j < us.toArray.size) (h2:j < vs.toArray.size) :
  SeqAt.EqAt A s us.toArray[j] vs.toArray[j] (decide (ps.getD j (0,0) = qs.getD j (0,0))):=by
 have h1':j < us.length:=by simpa using h1
 have h2':j < vs.length:=by simpa using h2
 obtain ⟨p,e1,e2⟩:=Pair.get (i:=j) (x:=us[j]) x (by simp [h1'])
 obtain ⟨q,e3,e4⟩:=Pair.get (i:=j) (x:=vs[j]) y (by simp [h2'])
 have:=eq_pt hu e2 e4
 rw [List.getD_eq_getElem?_getD,List.getD_eq_getElem?_getD,e1,e3]
 simpa using this
theorem rc_pts {a b:Addr} {us vs:List Value} {ps qs:List Pt} (hu:A.units+1 < cLine) (ha:s.heap.IsList a us.toArray) (hb:s.heap.IsList b vs.toArray) (x:Paired (TupAt s.heap) us ps) (y:Paired (TupAt s.heap) vs qs) :
  SeqAt.RcAt A s (.ref a) (.ref b) (decide (ps = qs)):=by
 have l1:=x.length
 have l2:=y.length
 by_cases hl:us.length = vs.length
 ·rw [← pair_range x y hl]
  exact SeqAt.RcAt.lists ha hb (by simpa using hl) (by omega) fun j h1 h2=>eq_pts_at (by show A.units+1 < cLine; exact hu) x y j h1 h2
 ·rw [decide_eq_false (fun e=>hl (by rw [l1,l2,e]))]
  exact SeqAt.RcAt.lists_lengths ha hb (by simp [hl]) (by omega)
end
section
variable {X:Cx}
open Classical in
noncomputable def ptOf (h:Heap) (u:Value) (p:Pt):Bool:=decide (TupAt h u p)
end
end L2
set_option maxRecDepth 100000
namespace L2
open PySem PySem.Spec PyProof.Rows Geo PySem.W STab
section
variable {prog:Program} {w:World} {A:Around} {E:Value→Shared→Prop} {s:Shared}
theorem lri_no_len:typeLookup (.type "list_reverseiterator") "__len__" = pure none:=by (rw [typeLookup_type,builtinLookup_eq_fast]); kernel_rfl
theorem slot_lri_hint:typeLookup (.type "list_reverseiterator") "__length_hint__" = pure (some (.builtin "list_reverseiterator.__length_hint__")):=by (rw [typeLookup_type,builtinLookup_eq_fast]); kernel_rfl
theorem lri_hint {I:Addr} {Q:Bool→Shared→Prop} (hT:s.TypeIs (.ref I) "list_reverseiterator") (h:Q false s):wpAny (model prog w) A (Builtin.List.listLengthHint (.ref I)) Q E s:=by
 unfold Builtin.List.listLengthHint
 refine wpAny_bind (wpAny_specialOf hT lri_no_len ?_)
 show wpAny _ A (specialOf (Value.ref I) (Str.ofString "__length_hint__") >>= fun _=>_) _ _ _
 refine wpAny_bind (wpAny_specialOf hT slot_lri_hint ?_)
 generalize hid:("list_reverseiterator.__length_hint__":String) = id0
 dsimp only
 rw [show splitId id0 = some ("list_reverseiterator","__length_hint__") from by subst hid; decide +kernel]
 dsimp only
 subst hid
 refine wpAny_bind (wpAny_isInstance (T:="list_reverseiterator") (b:=true) hT (by (rw [isSubtype_type]); kernel_rfl) ?_)
 refine wpAny_ite_split (fun hab=>absurd hab (by decide)) (fun _=>?_)
 (refine wpAny_ite_split (fun _=>?_) (fun hab=>absurd (by decide +kernel) hab))
 refine wpAny_ite_split (fun hab=>absurd hab (by decide +kernel)) (fun _=>?_)
 exact wpAny_pure h
theorem ext_rev {R:Result→Shared→Prop} {I l S:Addr} {items:Array Value} {c0:Nat} (hh:A.handled = none) (hne:l ≠ I) (hSI:S ≠ I) (hSl:S ≠ l) (hit:s.heap.IsRevIter I l ((items.size:Int) - 1)) (hl:s.heap.IsList l items) (hn:items.size≤sizeLine)
  (hS:s.heap.get? S = some { cls:=.type "list",data:=.seq #[] c0 })
  (fin:∀ h' tk acc c,(∀ b o,b ≠ S→b ≠ I→s.heap.get? b = some o→h'.get? b = some o)→h'.get? S = some { cls:=.type "list",dict:=none,data:=.seq acc c,slots:=#[] }→ItemsOf (fun i v=>items[items.size - 1 - i]? = some v) acc items.size→R (.ok (.ret .none)) { s with heap:=h',toks:=tk }) :
  wpAny (model prog w) A.in1 (Builtin.List.listExtendWith (.ref S) (.ref I) .none)
   (fun fn s'=>match fn with | .done f=>R (.ok f) s' | .again c'=>c'.quiet = true∧codeAny (model prog w) A c' R s') (fun e s'=>R (.error e) s') s:=by
 have hSf:S ∉ [I,l]:=by simp only [List.mem_cons,List.not_mem_nil,or_false,not_or]; exact ⟨hSI,hSl⟩
 have key:∀ (h:Heap) (c1:Nat),h.IsRevIter I l ((items.size:Int) - 1)→h.IsList l items→(∀ b o,b ≠ S→s.heap.get? b = some o→h.get? b = some o)→h.get? S = some { cls:=.type "list",data:=.seq #[] c1 } →
   codeAny (model prog w) A (.builtin "list.extend.loop" ⟨[.ref S,.ref I,.none],[]⟩) R { s with heap:=h }:=by
  intro h c1 hi' hl' hk hS1
  refine codeAny_extend_loopS ((Walks.listRev (prog:=prog) (w:=w) (A:=A.in1) hh I l hne items).toS) hn S hSf .none items.size 0 _ #[] c1 rfl (Nat.zero_le _) ⟨Nat.zero_le _,by simpa using hi',hl'⟩ hS1 (ItemsOf.nil _) fun s' acc c hm hS' hacc=>?_
  rw [Moved.eq_with hm]
  exact fin s'.heap s'.toks acc c (fun b o n1 n2 e=>hm.heap b o (by simp only [List.mem_cons,List.not_mem_nil,or_false,not_or]; exact ⟨n1,n2⟩) (hk b o n1 e)) hS' hacc
 unfold Builtin.List.listExtendWith
 refine wpAny_bind (wpAny_typeOf hit.typeIs ?_)
 have h1:Builtin.List.listSameRef (.ref S) (.ref I) = false:=by simp [Builtin.List.listSameRef,hSI]
 have h2:(Value.type "list_reverseiterator" == Value.type "list") = false:=by decide
 have h3:(Value.type "list_reverseiterator" == Value.type "tuple") = false:=by decide
 (simp only [h1,h2,h3,Bool.or_false,Bool.false_eq_true,if_false])
 refine wpAny_bind (wpAny_pyIter_revIter hit (wpAny_bind (wpAny_holding (lri_hint hit.typeIs ?_))))
 have oth:∀ b o,b ≠ S→s.heap.get? b = some o→((s.heap.update S (Obj.mapSeq (·.push Value.none))).update S (Obj.mapSeq (·.pop))).get? b = some o:=fun b o hb e=>(Heap.get?_update_other _ _ (Ne.symm hb)).trans ((Heap.get?_update_other _ _ (Ne.symm hb)).trans e)
 refine wpAny_ite_split (fun _=>?_) (fun _=>wpAny_pure ⟨plainId_quiet (PySem.F.plain_extend_loop) _,key _ c0 hit hl (fun b o _ e=>e) hS⟩)
 refine wpAny_bind (wpAny_rule (wpAny_bind ?_))
 show wpAny _ _ (updateSeq S (·.push Value.none) >>= fun _=>updateSeq S (·.pop)) _ _ _
 refine wpAny_bind (wpAny_updateSeq hS rfl ?_)
 have g2:=Heap.get?_update_self (Obj.mapSeq (·.push Value.none)) hS rfl
 (refine wpAny_updateSeq (hz:=by seq_fits) g2 rfl ?_)
 have g3:=Heap.get?_update_self (Obj.mapSeq (·.pop)) g2 rfl
 exact wpAny_pure ⟨plainId_quiet (PySem.F.plain_extend_loop) _,key _ _ (hit.at fun o e=>oth I o (Ne.symm hSI) e) (hl.at fun o e=>oth l o (Ne.symm hSl) e) oth g3⟩
theorem call_list_rev {I l:Addr} {items:Array Value} {Q:Value→Shared→Prop} (hh:A.handled = none) (hne:l ≠ I) (hit:s.heap.IsRevIter I l ((items.size:Int) - 1)) (hl:s.heap.IsList l items) (hn:items.size≤sizeLine)
  (hQ:∀ h' tk acc c,(∀ b o,b ≠ I→s.heap.get? b = some o→h'.get? b = some o)→h'.get? s.heap.objs.size = some { cls:=.type "list",dict:=none,data:=.seq acc c,slots:=#[] }→ItemsOf (fun i v=>items[items.size - 1 - i]? = some v) acc items.size→Q (.ref s.heap.objs.size) { s with heap:=h',toks:=tk }) :
  wpAny (model prog w) A (call (.type "list") [.ref I]) Q E s:=by
 have lI:I < s.heap.objs.size:=let ⟨_,e,_⟩:=hit; Heap.lt_size e
 have ll:l < s.heap.objs.size:=let ⟨_,e,_⟩:=hl; Heap.lt_size e
 refine callType_codes (Q₁:=fun obj s1=>obj = Value.ref s.heap.objs.size∧s1 = { s with heap:=s.heap.push { cls:=.type "list",data:=.seq #[] } }) PySem.F.called_list (PySem.F.typeCall_list_1 _) (PySem.F.entry_list_init) (code_list_new _ ⟨rfl,rfl⟩) fun obj s1 h1=>?_
 obtain ⟨rfl,rfl⟩:=h1
 have hS:(s.heap.push { cls:=.type "list",data:=.seq #[] }).get? s.heap.objs.size = some { cls:=.type "list",data:=.seq #[] }:=Heap.get?_push_size _ rfl
 refine ⟨⟨_,hS,rfl⟩,PySem.F.args_list_init_2 _ _,?_⟩
 show wpAny _ _ (Builtin.List.listItems (.ref s.heap.objs.size) >>= fun old=>Builtin.List.listUpdate (.ref s.heap.objs.size) (fun _=>#[]) >>= fun _=>letGo old.toList.reverse >>= fun _=>Builtin.List.listExtendWith (.ref s.heap.objs.size) (.ref I) .none) _ _ _
 refine wpAny_bind ?_
 unfold Builtin.List.listItems
 refine wpAny_bind (wpAny_seqItems hS rfl (wpAny_pure ?_))
 show wpAny _ _ (updateSeq s.heap.objs.size (fun _=>#[]) >>= fun _=>letGo (#[]:Array Value).toList.reverse >>= fun _=>Builtin.List.listExtendWith (.ref s.heap.objs.size) (.ref I) .none) _ _ _
 refine wpAny_bind (wpAny_updateSeq hS rfl ?_)
 have g2:=Heap.get?_update_self (Obj.mapSeq (fun _=>(#[]:Array Value))) hS rfl
 have oth:∀ b o,b ≠ s.heap.objs.size→s.heap.get? b = some o→((s.heap.push { cls:=.type "list",data:=.seq #[] }).update s.heap.objs.size (Obj.mapSeq (fun _=>(#[]:Array Value)))).get? b = some o:=fun b o hb e=>(Heap.get?_update_other _ _ (Ne.symm hb)).trans (Heap.get?_push_of_some _ e)
 refine wpAny_bind (wpAny_letGo ?_)
 refine ext_rev (A:=A.in1) hh hne (Nat.ne_of_gt lI) (Nat.ne_of_gt ll) (hit.at fun o e=>oth I o (Nat.ne_of_lt lI) e) (hl.at fun o e=>oth l o (Nat.ne_of_lt ll) e) hn g2 fun h' tk acc c kp g ha=>⟨rfl,?_⟩
 exact hQ h' tk acc c (fun b o n e=>kp b o (Nat.ne_of_lt (Heap.lt_size e)) n (oth b o (Nat.ne_of_lt (Heap.lt_size e)) e)) g ha
end
def tListRev (K:PySem.W.Frag) (te:TE):TE:=fun σ H Q=>te σ H fun x H1=>∃ p ys,x = .ref p∧SqL K H1 p ys∧∀ l,H1 l = none→Q (.ref l) (upd H1 l (.lst ys.reverse))
theorem pe_listrev {X:Cx} {e:Expr} {te:TE} {p1 p2 pos1 pos2:Pos} (hh:X.A.handled = none) (hg1:Gl X "list") (hm1:X.mg "list" = none) (hg2:Gl X "reversed") (hm2:X.mg "reversed" = none) (he:PE X e te)
  (hs:starEach [e] X.env = [(false,eval e X.env)]:=by rfl) :
  PE X (.Call (.Name "list" p1) [.Call (.Name "reversed" p2) [e] [] pos2] [] pos1) (tListRev X.K te):=by
 intro pins s σ H Q I h
 refine wpAny_Call_Name_kw (ld_blt I hg1 hm1 (by decide +kernel:bootBuiltins "list" = some (.type "list")) ?_)
 refine callWith_type1 ?_ rfl rfl
 show wpAny _ _ (spliced ((false,eval (.Call (.Name "reversed" p2) [e] [] pos2) X.env) :: [])) _ _ _
 refine Calls.spliced_cons ?_
 refine wpAny_Call_Name_kw (ld_blt I hg2 hm2 (by decide +kernel:bootBuiltins "reversed" = some (.type "reversed")) ?_)
 refine callWith_type1 ?_ hs rfl
 rw [hs]
 show wpAny _ _ (spliced ((false,eval e X.env) :: [])) _ _ _
 refine Calls.spliced_cons (thn (he pins s σ H _ I h) fun u s1 ⟨x,H1,I1,r1,p,ys,ex,hq,k⟩=>?_)
 subst ex
 obtain rfl:u = Value.ref p:=r1
 refine Calls.spliced_nil ?_
 obtain ⟨its,r,pl,hz⟩:=I1.list hq
 have hl:=r.length
 refine call_reversed_list pl.isList (Calls.spliced_nil ?_)
 have lp:p < s1.heap.objs.size:=let ⟨_,e,_⟩:=pl.isList; Heap.lt_size e
 refine call_list_rev (s:={ s1 with heap:=s1.heap.push (revObj p ((its.toArray.size:Int) - 1)) }) (l:=p) (items:=its.toArray) hh (Nat.ne_of_lt lp) ⟨_,Heap.get?_push_size _ rfl,rfl,rfl⟩ (pl.isList.push _) (by rw [List.size_toArray]; omega) fun h' tk acc c kp g ha=>?_
 have psz:(s1.heap.push (revObj p ((its.toArray.size:Int) - 1))).objs.size = s1.heap.objs.size+1:=Heap.size_push ..
 have g':h'.get? (s1.heap.objs.size+1) = some { cls:=.type "list",dict:=none,data:=.seq acc c,slots:=#[] }:=by rw [← psz]; exact g
 have eacc:acc.toList = its.reverse:=by
  apply List.ext_getElem?
  intro j
  obtain ⟨a1,a2⟩:=ha
  simp only [List.size_toArray] at a1 a2
  by_cases hj:j < acc.size
  ·have:=a2 j acc[j] (by simp [hj])
   rw [Array.getElem?_toList,List.getElem?_reverse (by omega)]
   simp only [List.getElem?_toArray] at this
   rw [this]; simp [hj]
  ·rw [List.getElem?_eq_none (by simp; omega),List.getElem?_eq_none (by simp; omega)]
 have n0:H1 (s1.heap.objs.size+1) = none:=I1.hok.fresh (Nat.le_succ _)
 have er:(Value.ref (s1.heap.push (revObj p ((its.toArray.size:Int) - 1))).objs.size) = Value.ref (s1.heap.objs.size+1):=by rw [psz]
 refine ⟨.ref (s1.heap.objs.size+1),_,I1.laid (t':=tk) (o:=.lst ys.reverse) (fun b v e=>kp b v (Nat.ne_of_lt (Heap.lt_size e)) (Heap.get?_push_of_some _ e)) (Nat.le_succ _) ⟨by rw [List.length_reverse]; exact hz,its.reverse,c,Pair.reverse r,?_⟩,er,k _ n0⟩
 rw [g',← eacc]
end L2
set_option maxRecDepth 100000
namespace L2
open PySem PySem.Spec PyProof.Rows PyProof.Rows.LSm Geo PySem.W STab
section
variable {X:Cx} {pins:List (Addr×Obj)} {σ:St} {H:Hp} {s:Shared}
theorem Inv.newsKept {h':Heap} {m:Str→Option Value} {t':Nat} (I:Inv X pins σ H s) (hm:s.heap.Ns X.env.locals m) (F:Fr X.base X.env.locals h' m) (N:News X.base X.env.locals h' (allNews X.base s.heap X.env.locals)) :
  Inv X pins σ H { s with heap:=h',toks:=t' }:=by
 have kp:=news_keeps (more:=[]) I F N
 have neL:∀ b u,H b = some u→b ≠ X.env.locals:=fun b u e=>ne_of_none e I.free
 refine I.step (g':=s.gens) (d':=s.drawn) (ch:=[]) (fun _ z=>nomatch z) (fun b ob hb _ _ e _=>kp b ob hb e) (fun b ob hb _ _ e _=>⟨ob.slots,kp b ob hb e⟩) (fun b ob _ e n=>n) (fun b ob _ e=>?_)
  (fun b xs e=>e) (fun b ob u e=>e) (fun b ps e=>⟨#[],by rw [e]; simp⟩) (fun m' hm'=>?_) (fun b u e=>?_) I.bare
 ·by_cases hb:b = X.env.locals
  ·obtain ⟨oL,_,_,hoL,_⟩:=F.ns
   exact ⟨oL,by rw [hb]; exact hoL⟩
  ·exact ⟨ob,kp b ob hb e⟩
 ·rw [← ns_one hm hm']; exact F.ns
 ·refine (I.hok b u e).stay (fun c v hc q=>?_) (fun c q=>q) fun c xs q=>q
  rcases hc with z | z
  ·rw [z] at q ⊢; exact kp b v (neL b u e) q
  ·exact kp c v (neL c _ z) q
theorem ints_are:∀ {ns:List Int} {us:List Value},Vals (ns.map V.int) us→IntsAre us ns
 | [],_,.nil=>.nil
 | n :: ns,_,.cons r t=>by
  obtain ⟨k,rfl⟩:=r
  exact .cons n k (ints_are t)
theorem bools_are:∀ {bs:List Bool} {us:List Value},Vals (bs.map V.bl) us→BoolsAre us bs
 | [],_,.nil=>.nil
 | b :: bs,_,.cons r t=>by
  obtain rfl:=r
  exact .cons b (bools_are t)
end
section
variable {X:Cx}
theorem call_minL (hh:X.A.handled = none):CallR X (.builtin "min") (fun xs H Q=>∃ (p:Addr) (ns:List Int),xs = [.ref p]∧SqL X.K H p (ns.map V.int)∧ns ≠ []∧∀ M,M ∈ ns→(∀ a ∈ ns,M≤a)→Q (.int M) H):=by
 intro pins s σ H xs us Q I rv h
 obtain ⟨p,ns,rfl,hq,hne,k⟩:=h
 cases rv with
 | cons r1 rv =>
  cases rv
  obtain rfl:=r1
  obtain ⟨its,r,pl,_⟩:=I.list hq
  obtain ⟨m,F⟩:=I.fr
  refine kso_min F (news_all (h:=s.heap)) pl.isList (ints_are r) (List.length_pos_iff.mpr hne) hh fun h' M t tk F' N' m1 m2=>?_
  exact ⟨.int M,H,I.newsKept F.ns F' N',⟨t,rfl⟩,k M m1 m2⟩
theorem call_maxL (hh:X.A.handled = none):CallR X (.builtin "max") (fun xs H Q=>∃ (p:Addr) (ns:List Int),xs = [.ref p]∧SqL X.K H p (ns.map V.int)∧ns ≠ []∧∀ M,M ∈ ns→(∀ a ∈ ns,a≤M)→Q (.int M) H):=by
 intro pins s σ H xs us Q I rv h
 obtain ⟨p,ns,rfl,hq,hne,k⟩:=h
 cases rv with
 | cons r1 rv =>
  cases rv
  obtain rfl:=r1
  obtain ⟨its,r,pl,_⟩:=I.list hq
  obtain ⟨m,F⟩:=I.fr
  refine kso_max F (news_all (h:=s.heap)) pl.isList (ints_are r) (List.length_pos_iff.mpr hne) hh fun h' M t tk F' N' m1 m2=>?_
  exact ⟨.int M,H,I.newsKept F.ns F' N',⟨t,rfl⟩,k M m1 m2⟩
theorem call_sumL (hh:X.A.handled = none):CallR X (.builtin "sum") (fun xs H Q=>∃ (p:Addr) (ns:List Int),xs = [.ref p]∧SqL X.K H p (ns.map V.int)∧Q (.int ns.sum) H):=by
 intro pins s σ H xs us Q I rv h
 obtain ⟨p,ns,rfl,hq,k⟩:=h
 cases rv with
 | cons r1 rv =>
  cases rv
  obtain rfl:=r1
  obtain ⟨its,r,pl,_⟩:=I.list hq
  obtain ⟨m,F⟩:=I.fr
  refine sum_ints F (news_all (h:=s.heap)) hh pl.isList (ints_are r) fun h' tk t F' N'=>?_
  exact ⟨.int _,H,I.newsKept F.ns F' N',⟨t,rfl⟩,k⟩
theorem call_allL (hh:X.A.handled = none):CallR X (.builtin "all") (fun xs H Q=>∃ (p:Addr) (bs:List Bool),xs = [.ref p]∧SqL X.K H p (bs.map V.bl)∧Q (.bl (bs.all id)) H):=by
 intro pins s σ H xs us Q I rv h
 obtain ⟨p,bs,rfl,hq,k⟩:=h
 cases rv with
 | cons r1 rv =>
  cases rv
  obtain rfl:=r1
  obtain ⟨its,r,pl,_⟩:=I.list hq
  obtain ⟨m,F⟩:=I.fr
  refine all_bools F (news_all (h:=s.heap)) hh pl.isList (bools_are r) fun h' tk F' N'=>?_
  exact ⟨.bl _,H,I.newsKept F.ns F' N',rfl,k⟩
end
end L2
set_option maxRecDepth 100000
namespace L2
open PySem PySem.Spec PyProof.Rows Geo PySem.W STab
def cls (names:List (Str×NameKind)) (env:Env) (cs:List (Str×Addr)):List (Str×Addr):=names.foldl (fun cs x=>if (x.2 == NameKind.free) = true then (x.1,(env.cells.lookup x.1).getD 0) :: cs else cs) cs
theorem clos_go {env:Env}:∀ (names:List (Str×NameKind)) (cs:List (Str×Addr)),(∀ x ∈ names,x.2 = .free→∃ c,env.cells.lookup x.1 = some c) →
  (forIn names cs (fun x r=>if (x.2 == NameKind.free) = true then do let a ← cellOf env x.1; pure (ForInStep.yield ((x.1,a) :: r)) else pure (ForInStep.yield r)):Sem (List (Str×Addr))) = pure (cls names env cs)
 | [],cs,_=>by rw [List.forIn_nil]; rfl
 | x :: r,cs,h=>by
  rw [List.forIn_cons]
  by_cases hx:(x.2 == NameKind.free) = true
  ·obtain ⟨c,hc⟩:=h x List.mem_cons_self (by simpa using hx)
   have e:cellOf env x.1 = pure c:=by unfold cellOf; rw [hc]
   simp only [hx,if_true,e,pure_bind]
   rw [clos_go r _ fun y hy=>h y (List.mem_cons_of_mem _ hy)]
   unfold cls
   rw [List.foldl_cons,if_pos hx,hc]; rfl
  ·simp only [hx,Bool.false_eq_true,if_false,pure_bind]
   rw [clos_go r _ fun y hy=>h y (List.mem_cons_of_mem _ hy)]
   unfold cls
   rw [List.foldl_cons,if_neg hx]
theorem clos_eq {scope:Scope} {env:Env} (h:∀ x ∈ scope.names,x.2 = .free→∃ c,env.cells.lookup x.1 = some c):closureFor scope env = pure (cls scope.names env []):=by
 have:=clos_go (env:=env) scope.names [] h
 unfold closureFor
 simp only [bind_pure]
 exact this
theorem cls_sub {env:Env}:∀ (names:List (Str×NameKind)) (cs:List (Str×Addr)),(∀ x ∈ names,x.2 = .free→∃ c,env.cells.lookup x.1 = some c)→(∀ x c,cs.lookup x = some c→env.cells.lookup x = some c) →
  ∀ x c,(cls names env cs).lookup x = some c→env.cells.lookup x = some c
 | [],cs,_,h0,x,c,e=>h0 x c e
 | y :: r,cs,h,h0,x,c,e=>by
  unfold cls at e
  rw [List.foldl_cons] at e
  refine cls_sub r _ (fun z hz=>h z (List.mem_cons_of_mem _ hz)) ?_ x c e
  intro z d hz
  by_cases hy:(y.2 == NameKind.free) = true
  ·rw [if_pos hy] at hz
   obtain ⟨c',hc'⟩:=h y List.mem_cons_self (by simpa using hy)
   rw [List.lookup_cons] at hz
   cases q:z == y.1 with
   | true =>
    rw [q] at hz
    simp only at hz
    rw [hc'] at hz; simp at hz; subst hz
    rw [eq_of_beq q]; exact hc'
   | false=>rw [q] at hz; exact h0 z d hz
  ·rw [if_neg hy] at hz; exact h0 z d hz
theorem cls_has {env:Env}:∀ (names:List (Str×NameKind)) (cs:List (Str×Addr)) (x:Str),(x,NameKind.free) ∈ names∨(∃ c,cs.lookup x = some c)→∃ c,(cls names env cs).lookup x = some c
 | [],cs,x,h=>by
  rcases h with h | h
  ·simp at h
  ·exact h
 | y :: r,cs,x,h=>by
  unfold cls
  rw [List.foldl_cons]
  refine cls_has r _ x ?_
  rcases h with h | ⟨c,h⟩
  ·rcases List.mem_cons.mp h with z | z
   ·right
    rw [← z]
    simp [List.lookup_cons]
   ·exact .inl z
  ·right
   by_cases hy:(y.2 == NameKind.free) = true
   ·rw [if_pos hy,List.lookup_cons]
    cases q:x == y.1 with
    | true=>exact ⟨_,rfl⟩
    | false=>exact ⟨c,h⟩
   ·rw [if_neg hy]; exact ⟨c,h⟩
def compCx (X:Cx) (N':List Str) (scope:Scope) (C:Addr) (s3:Shared) (H3:Hp) (fp:List Addr) (pins:List (Addr×Obj)):Cx where
 prog:=X.prog
 w:=X.w
 K:=X.K
 mg:=X.mg
 base:=X.base
 A:=X.A
 N:=N'
 s₀:=s3
 H₀:=H3
 env:=compEnvC scope (cls scope.names X.env []) C X.env
 outer:=X.stack
 stack:=X.stack
 ex:=fp
 fn:=fun _=>false
 calm:=X.calm
 pn:=X.pn++pins
 xe:=fun _ _=>False
structure CompScope (X:Cx) (scope:Scope) (N':List Str) (caps:List (Option Nat)):Prop where
 kind:scope.kind = .function
 nocell:∀ z ∈ scope.names,z.2 ≠ .cell
 names:∀ z ∈ scope.names,z.2 = .local→scope.names.lookup z.1 = some .local
 frees:∀ z ∈ scope.names,z.2 = .free→X.env.scope.names.lookup z.1 = some .cell
 nd:N'.Nodup
 len:caps.length = N'.length
 cap:∀ (i j:Nat),caps[i]? = some (some j)→∃ x:Str,N'[i]? = some x∧X.N[j]? = some x∧(x,NameKind.free) ∈ scope.names∧X.env.scope.names.lookup x = some .cell∧((relabel scope X.env).names.lookup x = some .cell∨(relabel scope X.env).names.lookup x = some .free)
def capSt (caps:List (Option Nat)) (σ:St):St:=caps.map fun o=>o.bind fun j=>σ.getD j none
theorem relabel_look {scope:Scope} {env:Env} {x:Str} {k:NameKind} (h:(relabel scope env).names.lookup x = some k):∃ k',(x,k') ∈ scope.names∧(k = k'∨k' = .free):=by
 unfold relabel at h
 have hm:=PySem.mem_of_lookup h
 obtain ⟨⟨n,k'⟩,h1,h2⟩:=List.mem_map.mp hm
 dsimp only at h2
 split at h2
 ·rename_i hc
  cases h2
  simp only [Bool.and_eq_true,beq_iff_eq] at hc
  exact ⟨k',h1,.inr hc.1.1⟩
 ·cases h2
  exact ⟨k,h1,.inl rfl⟩
section
variable {X:Cx} {pins:List (Addr×Obj)} {σ:St} {H:Hp} {s:Shared} {scope:Scope} {N':List Str} {caps:List (Option Nat)}
theorem CompScope.cells (S:CompScope X scope N' caps) (ok:X.Ok):∀ z ∈ scope.names,z.2 = .free→∃ c,X.env.cells.lookup z.1 = some c:=fun z hz hf=>ok.has z.1 (.inl (S.frees z hz hf))
theorem comp_enter (S:CompScope X scope N' caps) {s3:Shared} {H3:Hp} {h1:Heap} {fp:List Addr} {m0:Str→Option Value} {tk:Nat} (I:Inv X pins σ H3 s3) (hfp:∀ b ∈ fp,FpOk X pins H3 b) (hfl:∀ b ∈ fp,b < s3.heap.objs.size)
  (hn:h1.Ns s3.heap.objs.size m0) (kp:∀ b o,s3.heap.get? b = some o→h1.get? b = some o) :
  Inv (compCx X N' scope s3.heap.objs.size s3 H3 fp pins) [] (capSt caps σ) H3 { s3 with heap:=h1,toks:=tk }:=by
 have hc:=S.cells I.ok
 have sub:=cls_sub (env:=X.env) scope.names [] hc (fun x c e=>by simp at e)
 have notstk:∀ b,b ≠ X.env.locals→b ∉ X.fs→b ∉ frs X.stack:=fun b h1 h2 hb=>by
  rcases List.mem_cons.mp (I.stkSub b hb) with z | z
  ·exact h1 z
  ·exact h2 z
 have ok:(compCx X N' scope s3.heap.objs.size s3 H3 fp pins).Ok:=by
  refine ⟨I.ok.mod,S.kind,I.ok.glob,I.ok.blt,Nat.le_refl _,fun x y c e1 e2=>I.ok.inj x y c (sub x c e1) (sub y c e2),fun x hx=>?_,fun x c hf=>(by cases hf),I.ok.hd,I.ok.frames,.inl rfl,fun b hb=>?_,I.bs,Nat.le_trans I.ok.bsz I.sz,fun b o e hb=>?_,fun b hb=>?_,I.stack,I.stkFree⟩
  ·have hx':(relabel scope X.env).names.lookup x = some .cell∨(relabel scope X.env).names.lookup x = some .free:=hx
   refine cls_has scope.names [] x (.inl ?_)
   rcases hx' with z | z
   ·obtain ⟨k',m1,m2⟩:=relabel_look z
    rcases m2 with m2 | m2
    ·exact absurd m2.symm (S.nocell _ m1)
    ·rw [m2] at m1; exact m1
   ·obtain ⟨k',m1,m2⟩:=relabel_look z
    rcases m2 with m2 | m2
    ·rw [← m2] at m1; exact m1
    ·rw [m2] at m1; exact m1
  ·exact ⟨Nat.ne_of_lt (hfl b hb),fun x c e=>(hfp b hb).2.2.2.2.1 x c (sub x c e)⟩
  ·obtain ⟨_,f1,f2,f3,_⟩:=hfp b hb
   rcases f3 with z | z
   ·exact I.ok.noex b o e z
   ·exact absurd (Nat.lt_of_lt_of_le (Heap.lt_size (I.ok.bs b o e).1) z) (Nat.lt_irrefl _)
  ·exact notstk b (hfp b hb).2.1 (hfp b hb).2.2.1
 have Cn:H3 s3.heap.objs.size = none:=I.hok.fresh (Nat.le_refl _)
 refine ⟨ok,rfl,I.bare,Un.kept kp,⟨m0,hn,fun i x v e1 e2 e3=>?_⟩,fun x c e=>?_,Cn,fun x c e=>I.freeC x c (sub x c e),fun p hp=>?_,I.hok.kept kp,?_⟩
 ·-- a captured name
  have e2':(caps.map fun o=>o.bind fun j=>σ.getD j none)[i]? = some (some v):=e2
  rw [List.getElem?_map] at e2'
  cases q:caps[i]? with
  | none=>rw [q] at e2'; cases e2'
  | some o =>
   rw [q] at e2'
   simp only [Option.map_some,Option.some.injEq] at e2'
   cases o with
   | none=>cases e2'
   | some j =>
    have e2'':σ.getD j none = some v:=e2'
    have e4:σ[j]? = some (some v):=by
     rw [List.getD_eq_getElem?_getD] at e2''
     cases q2:σ[j]? with
     | none=>rw [q2] at e2''; cases e2''
     | some z=>rw [q2] at e2''; simp at e2''; rw [e2'']
    obtain ⟨y,c1,c2,c3,c4,c5⟩:=S.cap i j q
    have e1':N'[i]? = some x:=e1
    have exy:y = x:=Option.some.inj (c1.symm.trans e1')
    subst exy
    obtain ⟨m,hm,hl⟩:=I.loc
    obtain ⟨u,r,l⟩:=hl j y v c2 e4 (.inr (.inl c4))
    refine ⟨u,r,?_⟩
    rcases l with ⟨k,_⟩ | ⟨_,c,ec,z⟩
    ·have:X.env.kindOf y = some .cell:=c4
     rw [this] at k; cases k
    ·obtain ⟨c',hc'⟩:=cls_has (env:=X.env) scope.names [] y (.inl c3)
     have:=sub y c' hc'
     rw [ec] at this; cases this
     have z':h1.IsCell c (some u):=by
      obtain ⟨ob,eo,ed⟩:=z
      exact ⟨ob,kp c ob eo,ed⟩
     exact .inr ⟨c5,c,hc',z'⟩
 ·obtain ⟨v,ob,eo,ed⟩:=I.cell x c (sub x c e)
  exact ⟨v,ob,kp c ob eo,ed⟩
 ·have hp':p ∈ X.pn++pins:=by
   have:p ∈ (X.pn++pins)++[]:=hp
   simpa using this
  obtain ⟨a1,a2,a3,a4,a5⟩:=I.pin p hp'
  exact ⟨kp _ _ a1,a2,Nat.ne_of_lt (Heap.lt_size a1),notstk _ a3 a4,a5⟩
 ·show (caps.map _).length = N'.length
  rw [List.length_map,S.len]
end
end L2
set_option maxRecDepth 100000
namespace L2
open PySem PySem.Spec PyProof.Rows Geo PySem.W STab
def PIf (Y:Cx) (ifs:List Expr) (t:TT):Prop :=
 ∀ (pins:List (Addr×Obj)) (s:Shared) (σ:St) (H:Hp) (Q:Bool→Hp→Prop),Inv Y pins σ H s→t σ H Q →
  wpAny (model Y.prog Y.w) Y.A (forIn ifs true fun c r=>if r = true then do let ok ← isTrue c Y.env (eval c Y.env); pure (ForInStep.yield ok) else pure (ForInStep.yield r)) (TP Y pins σ Q) Y.xe s
def tYes:TT:=fun _ H Q=>Q true H
theorem pif_nil {Y:Cx}:PIf Y [] tYes:=fun _ _ _ H _ I h=>wpAny_tests_nil ⟨H,I,h⟩
def tComp (caps:List (Option Nat)) (wi:TI) (g:TG) (tt:TT) (te:TE):TE:=fun σ H Q=>wi σ H fun J H1=>∀ D,H1 D = none →
 ∃ W:Nat→Nat→St→Hp→Prop,(∃ m,W 0 m (capSt caps σ) (upd H1 D (.lst [])))∧∀ i m σ' H',W i m σ' H' →
  (J.stop i H'∧Q (.ref D) H')∨(J.go i H'∧∃ N:St→Hp→Prop,(∀ σ2 H2,N σ2 H2→∃ m',m' < m∧W (i+1) m' σ2 H2) ∧
   ∀ x H2,J.yld i H' x H2→g x σ' H2 fun σ3 H3=>tt σ3 H3 fun ok H4=>if ok = true then te σ3 H4 fun y H5=>∃ ys,H5 D = some (.lst ys)∧ys.length < sizeLine∧N σ3 (upd H5 D (.lst (ys++[y]))) else N σ3 H4)
section
variable {X:Cx} {scope:Scope} {N':List Str} {caps:List (Option Nat)} {tg iter elt:Expr} {ifs:List Expr} {wi:TI} {g:TG} {tt:TT} {te:TE} {pos:Pos}
theorem comp_core (S:CompScope X scope N' caps) (hc:X.calm = true) (hg:∀ C s3 H3 fp pins,PG (compCx X N' scope C s3 H3 fp pins) tg g) (ht:∀ C s3 H3 fp pins,PIf (compCx X N' scope C s3 H3 fp pins) ifs tt) (he:∀ C s3 H3 fp pins,PE (compCx X N' scope C s3 H3 fp pins) elt te)
  {pins:List (Addr×Obj)} {σ:St} {H:Hp} {s2:Shared} {it:Addr} {fp:List Addr} {tn:Nat→Heap→Prop} {J:It} {Q:VK} {E:Value→Shared→Prop} {RR:Value→Addr→Result→Shared→Prop}
  (I:Inv X pins σ H s2) (T:Turn X.prog X.w X.K tg J fp it tn) (st:tn 0 s2.heap) (hfp:∀ b ∈ fp,FpOk X pins H b)
  (rd:∀ D,H D = none→∃ W:Nat→Nat→St→Hp→Prop,(∃ m,W 0 m (capSt caps σ) (upd H D (.lst [])))∧∀ i m σ' H',W i m σ' H' →
   (J.stop i H'∧Q (.ref D) H')∨(J.go i H'∧∃ N:St→Hp→Prop,(∀ σ2 H2,N σ2 H2→∃ m',m' < m∧W (i+1) m' σ2 H2) ∧
    ∀ x H2,J.yld i H' x H2→g x σ' H2 fun σ3 H3=>tt σ3 H3 fun ok H4=>if ok = true then te σ3 H4 fun y H5=>∃ ys,H5 D = some (.lst ys)∧ys.length < sizeLine∧N σ3 (upd H5 D (.lst (ys++[y]))) else N σ3 H4))
  (fin:∀ D C s' H',Inv X pins σ H' s'→FpOk X pins H' C→(∃ m,s'.heap.Ns C m)→Q (.ref D) H'→RR (.ref D) C (.ok .next) s') :
  wpAny (model X.prog X.w) X.A (newList []) (fun acc s3=>wpAny (model X.prog X.w) X.A (newFunctionEnv scope X.env.globals (cls scope.names X.env []) [] X.env.qual none .none (some X.env)) (fun cenv s4 =>
   codeAny (model X.prog X.w) X.A (.compStart (.ListComp elt [⟨tg,iter,ifs,0⟩] scope pos) 0 (.ref it) acc { cenv with scope:=relabel scope X.env }) (RR acc cenv.locals) s4) E s3) E s2:=by
 have nD:H s2.heap.objs.size = none:=I.hok.fresh (Nat.le_refl _)
 obtain ⟨W,⟨m0,w0⟩,turn⟩:=rd s2.heap.objs.size nD
 have hfl:∀ b ∈ fp,b < s2.heap.objs.size:=fun b hb=>by
  obtain ⟨o,e,_⟩:=T.obj 0 _ st b hb
  exact Heap.lt_size e
 refine wpAny_newObj_type ?_
 have I3:Inv X pins σ (upd H s2.heap.objs.size (.lst [])) { s2 with heap:=s2.heap.push { cls:=.type "list",dict:=none,data:=.seq ([]:List Value).toArray } } :=
  I.laid (t':=s2.toks) (fun b u e=>Heap.get?_push_of_some _ e) (Nat.le_refl _) ⟨Nat.zero_le _,[],0,.nil,Heap.get?_push_size _ rfl⟩
 have ps:(s2.heap.push { cls:=.type "list",dict:=none,data:=.seq ([]:List Value).toArray }).objs.size = s2.heap.objs.size+1:=Heap.size_push ..
 refine wpAny_newFunctionEnv S.nocell (by intro y hy; simp at hy) (fun h1 hns hsb=>?_) S.kind
 dsimp only at hns hsb ⊢
 generalize hH3:s2.heap.push { cls:=.type "list",dict:=none,data:=.seq ([]:List Value).toArray } = G3 at I3 hns hsb ps ⊢
 have kp:∀ b o,G3.get? b = some o→h1.get? b = some o:=fun b o e=>(hsb.2 b (Nat.ne_of_lt (Heap.lt_size e))).trans (Heap.get?_push_of_some _ e)
 have nfp:∀ b ∈ fp,b ≠ s2.heap.objs.size:=fun b hb=>Nat.ne_of_lt (hfl b hb)
 have hfp3:∀ b ∈ fp,FpOk X pins (upd H s2.heap.objs.size (.lst [])) b:=fun b hb=>⟨by rw [upd_ne (nfp b hb)]; exact (hfp b hb).1,(hfp b hb).2⟩
 have I4:=comp_enter (fp:=fp) (tk:=s2.toks+([]:List (Str×Value)).length) S I3 hfp3 (fun b hb=>by show b < G3.objs.size; rw [ps]; exact Nat.lt_succ_of_lt (hfl b hb)) hns kp
 have st4:tn 0 h1:=T.keep _ _ _ st fun b hb o e=>kp b o (by rw [← hH3]; exact Heap.get?_push_of_some _ e)
 have stat:∀ {H':Hp},(∀ b ∈ fp,H' b = none)→∀ b ∈ fp,FpOk (compCx X N' scope G3.objs.size { s2 with heap:=G3 } (upd H s2.heap.objs.size (.lst [])) fp pins) [] H' b:=fun {H'} hn b hb=>by
  obtain ⟨f0,f1,f2,f3,f4,f5⟩:=hfp b hb
  refine ⟨hn b hb,(I4.ok.exf b hb).1,I4.ok.exfs b hb,.inl hb,(I4.ok.exf b hb).2,fun p hp=>?_⟩
  have hp':p ∈ (X.pn++pins)++[]:=hp
  exact f5 p (by simpa using hp')
 have loop:codeAny (model X.prog X.w) X.A (.compLoop (.ListComp elt [⟨tg,iter,ifs,0⟩] scope pos) 0 (.ref it) (.ref s2.heap.objs.size) (compEnvC scope (cls scope.names X.env []) G3.objs.size X.env))
   (RR (.ref s2.heap.objs.size) G3.objs.size) { s2 with heap:=h1,toks:=s2.toks+([]:List (Str×Value)).length }:=by
  refine codeAny_loop rfl (fun n s'=>∃ i σ' H',Inv (compCx X N' scope G3.objs.size { s2 with heap:=G3 } (upd H s2.heap.objs.size (.lst [])) fp pins) [] σ' H' s'∧tn i s'.heap∧(∀ b ∈ fp,H' b = none)∧W i n σ' H') (fun n s5 hI=>?_) m0
   ⟨0,_,_,I4,st4,fun b hb=>(hfp3 b hb).1,w0⟩
  obtain ⟨i,σ5,H5,I5,st5,fr5,w5⟩:=hI
  show wpAny _ X.A ((compTurn (.ListComp elt [⟨tg,iter,ifs,0⟩] scope pos) 0 (.ref it) (.ref s2.heap.objs.size) (compEnvC scope (cls scope.names X.env []) G3.objs.size X.env)).onRaise (fun x=>do noteFrame x (compEnvC scope (cls scope.names X.env []) G3.objs.size X.env); theTreesLotGoes x)) _ _ s5
  refine wpAny_noted ?_
  rw [compTurn_list]
  have nox:∀ {α:Type} {t:Sem α} {R:α→Shared→Prop} {E':Value→Shared→Prop} {s:Shared},wpAny (model X.prog X.w) X.A t R (fun _ _=>False) s→wpAny (model X.prog X.w) X.A t R E' s:=fun h=>wpAny_mono h (fun _ _ x=>x) fun _ _ z=>z.elim
  rcases turn i n σ5 H5 w5 with ⟨stop,qn⟩ | ⟨go,N,hN,step⟩
  ·refine wpAny_bind (wpAny_standAt (wpAny_bind (nox (thn (T.done (compCx X N' scope G3.objs.size { s2 with heap:=G3 } (upd H s2.heap.objs.size (.lst [])) fp pins) rfl rfl rfl hc i [] s5 σ5 H5 _ I5 (stat fr5) st5 stop) fun r s6 ⟨hr,I6⟩=>?_))))
   subst hr
   refine wpAny_pure ?_
   have un:Un (frs X.stack) fp (upd H s2.heap.objs.size (.lst [])) H5 G3 s6.heap:=I6.base
   have I7:Inv X pins σ H5 s6:=I3.call' (ch:=fp) I6.os un I6.hok I6.bare fun b hb=>by
    obtain ⟨_,f1,_,f3,f4,f5⟩:=hfp b hb
    exact ⟨f3,f1,f4,f5⟩
   have fC:FpOk X pins H5 G3.objs.size:=I3.fpOk (Nat.le_refl _) I6.free
   obtain ⟨mC,hmC,_⟩:=I6.loc
   exact fin _ _ s6 H5 I7 fC ⟨mC,hmC⟩ qn
  ·refine wpAny_bind (wpAny_standAt (wpAny_bind (nox (thn (T.item (compCx X N' scope G3.objs.size { s2 with heap:=G3 } (upd H s2.heap.objs.size (.lst [])) fp pins) rfl rfl rfl hc i [] s5 σ5 H5 _ I5 (stat fr5) st5 go) fun r s6 ⟨u,hr,h6⟩=>?_))))
   subst hr
   dsimp only
   refine wpAny_bind (nox (thn h6 fun _ s7 ⟨x,H7,I7,r7,y7,st7,fr7⟩=>?_))
   have I7':=I7.pinned (stat fr7) (T.obj _ _ st7)
   refine wpAny_bind (nox (thn (hg _ _ _ _ _ _ s7 σ5 H7 x u _ I7' r7 (step x H7 y7)) fun _ s8 ⟨σ8,H8,I8,q8⟩=>?_))
   refine wpAny_bind (nox (thn (ht _ _ _ _ _ _ s8 σ8 H8 _ I8 q8) fun ok s9 ⟨H9,I9,q9⟩=>?_))
   have again:∀ {s10:Shared} {H10:Hp},Inv (compCx X N' scope G3.objs.size { s2 with heap:=G3 } (upd H s2.heap.objs.size (.lst [])) fp pins) ([]++pinsAt fp s7.heap) σ8 H10 s10→N σ8 H10 →
     ∃ m,m < n∧∃ i σ' H',Inv (compCx X N' scope G3.objs.size { s2 with heap:=G3 } (upd H s2.heap.objs.size (.lst [])) fp pins) [] σ' H' s10∧tn i s10.heap∧(∀ b ∈ fp,H' b = none)∧W i m σ' H':=fun {s10 H10} J10 n10=>by
    obtain ⟨m',hm,w10⟩:=hN σ8 H10 n10
    refine ⟨m',hm,i+1,σ8,H10,J10.unpinned,T.keep _ _ _ st7 fun b hb o e=>(J10.pin (b,o) (List.mem_append_right _ (List.mem_append_right _ (mem_pinsAt hb e)))).1,fun b hb=>?_,w10⟩
    obtain ⟨o,e,d⟩:=T.obj _ _ st7 b hb
    exact (J10.pin (b,o) (List.mem_append_right _ (List.mem_append_right _ (mem_pinsAt hb e)))).2.1
   cases ok with
   | false =>
    rw [if_neg Bool.false_ne_true] at q9
    exact wpAny_pure ⟨rfl,again I9 q9⟩
   | true =>
    rw [if_pos rfl] at q9
    refine wpAny_bind (wpAny_bind (nox (thn (he _ _ _ _ _ _ s9 σ8 H9 _ I9 q9) fun y s10 ⟨yv,H10,I10,r10,ys,hD,hz,n10⟩=>?_)))
    refine wpAny_bind (nox (thn (mt_append (X:=compCx X N' scope G3.objs.size { s2 with heap:=G3 } (upd H s2.heap.objs.size (.lst [])) fp pins) _ s10 σ8 H10 (.ref s2.heap.objs.size) [yv] (.ref s2.heap.objs.size) [y] (fun _ H'=>H' = upd H10 s2.heap.objs.size (.lst (ys++[yv]))) I10 rfl (.cons r10 .nil)
     ⟨s2.heap.objs.size,ys,yv,rfl,rfl,hD,hz,rfl⟩) fun _ s11 ⟨_,H11,I11,_,e11⟩=>?_))
    subst e11
    exact wpAny_pure (wpAny_pure ⟨rfl,again I11 n10⟩)
 exact codeAny_compStart_list loop (T.self X.A 0 _ _ _ st4 loop)
theorem pe_comp (S:CompScope X scope N' caps) (hc:X.calm = true) (hi:PI X tg iter wi) (hg:∀ C s3 H3 fp pins,PG (compCx X N' scope C s3 H3 fp pins) tg g) (ht:∀ C s3 H3 fp pins,PIf (compCx X N' scope C s3 H3 fp pins) ifs tt) (he:∀ C s3 H3 fp pins,PE (compCx X N' scope C s3 H3 fp pins) elt te)
  (hs:∀ x,foldedSetIterable iter X.env x = pure x:=by intro _; rfl):PE X (.ListComp elt [⟨tg,iter,ifs,0⟩] scope pos) (tComp caps wi g tt te):=by
 intro pins s σ H Q I h
 rw [eval_ListComp]
 refine wpAny_comprehension_free (use:=none) rfl hs (clos_eq (S.cells I.ok)) S.kind S.names (thn (hi pins s σ H _ I h) fun v s1 h1=>thn h1 fun itv s2 h2=>?_)
 obtain ⟨it,fp,tn,J,H2,e,I2,T,st2,f2,rd⟩:=h2
 subst e
 refine comp_core S hc hg ht he I2 T st2 f2 rd fun D C s' H' I' fC hm q=>?_
 obtain ⟨m,hm⟩:=hm
 obtain ⟨f0,f1,_,f3,f4,f5⟩:=fC
 exact ⟨m,hm,fun h' sb=>⟨.ref D,H',I'.turned (t':=s'.toks) (fun b o hb e=>(sb.2 b hb).trans e) f0 f1 f3 f4 f5,rfl,q⟩⟩
theorem ps_setC {i:Nat} {x:Str} {pos' spos:Pos} (hN:X.N.Nodup) (hi':X.N[i]? = some x) (hx:X.env.scope.names.lookup x = some .local) (S:CompScope X scope N' caps) (hc:X.calm = true) (hi:PI X tg iter wi) (hg:∀ C s3 H3 fp pins,PG (compCx X N' scope C s3 H3 fp pins) tg g)
  (ht:∀ C s3 H3 fp pins,PIf (compCx X N' scope C s3 H3 fp pins) ifs tt) (he:∀ C s3 H3 fp pins,PE (compCx X N' scope C s3 H3 fp pins) elt te) (hsw:swapsWith (.ListComp elt [⟨tg,iter,ifs,0⟩] scope pos) (some (.Name x pos')) spos.line X.env = pure true)
  (hs:∀ x,foldedSetIterable iter X.env x = pure x:=by intro _; rfl):PS X (.Assign [.Name x pos'] (.ListComp elt [⟨tg,iter,ifs,0⟩] scope pos) spos) (tAsg (tComp caps wi g tt te) (gName i)):=by
 intro pins s σ H D I h
 rw [exec_Assign_Name_used _ _ _ _ hsw]
 refine wpAny_bind (wpAny_standAt (wpAny_bind ?_))
 show wpAny _ X.A (comprehension (.ListComp elt [⟨tg,iter,ifs,0⟩] scope pos) scope X.env _ (newList []) false (eval iter X.env) (some (assign (.Name x pos') X.env)) >>= fun _=>pure ()) _ _ s
 refine wpAny_bind (thn (Q:=fun _ s'=>SP X pins D .next s') (wpAny_comprehension_free (use:=some (assign (.Name x pos') X.env)) rfl hs (clos_eq (S.cells I.ok)) S.kind S.names
  (thn (hi pins s σ H _ I h) fun v s1 h1=>thn h1 fun itv s2 h2=>?_)) fun _ s' hq=>wpAny_pure (wpAny_pure hq))
 obtain ⟨it,fp,tn,J,H2,e,I2,T,st2,f2,rd⟩:=h2
 subst e
 refine comp_core (Q:=fun x H1=>gName i x σ H1 D.nx) (RR:=fun acc C=>compPost (model X.prog X.w) X.A X.xe (some (assign (.Name x pos') X.env)) (fun _ s'=>SP X pins D .next s') acc C) S hc hg ht he I2 T st2 f2 rd fun D' C s' H' I' fC hm q=>?_
 obtain ⟨m,hm⟩:=hm
 obtain ⟨f0,f1,f2',f3,f4,f5⟩:=fC
 show wpAny _ X.A (assign (.Name x pos') X.env (.ref D')) _ _ _
 refine wpAny_assign_Name (store_ok2 I' hN hi' (.inl hx) (v:=.ref D') (u:=.ref D') rfl (fun s'' I'' ⟨a,sb,ha⟩=>?_) (.inr hx))
 have nC:C ≠ a:=by
  rcases ha with z | z
  ·rw [z]; exact f1
  ·exact fun q=>f4 x a z q.symm
 refine ⟨m,hm.sameBut sb nC,fun h' sb'=>?_⟩
 exact ⟨_,H',I''.turned (t':=s''.toks) (fun b o hb e=>(sb'.2 b hb).trans e) f0 f1 f3 f4 f5,q⟩
end
end L2
set_option maxRecDepth 100000
namespace L2
open PySem Geo
theorem Same.keep {H H':Hp} (h:Same H H'):Keep H H':=fun a xs e=>h a _ e
theorem same_upd {H H':Hp} {r:Addr} {o:HO} (h:Same H H') (n:H r = none):Same H (upd H' r o):=fun b u e=>by rw [upd_ne (ne_of_none e n)]; exact h b u e
theorem atI_m1 {α:Type} {xs:List α} {v:α} (h:xs[xs.length - 1]? = some v):atI xs (-1) = some v:=by
 have hl:0 < xs.length:=by have:=(List.getElem?_eq_some_iff.mp h).1; omega
 have e:ixN xs.length (-1) = some (xs.length - 1):=by
  unfold ixN
  rw [if_neg (by decide),if_pos (by omega)]
  congr 1; omega
 unfold atI; rw [e]; exact h
theorem atI_m2 {α:Type} {xs:List α} {v:α} (h:xs[xs.length - 2]? = some v) (h2:2≤xs.length):atI xs (-2) = some v:=by
 have e:ixN xs.length (-2) = some (xs.length - 2):=by
  unfold ixN
  rw [if_neg (by decide),if_pos (by omega)]
  congr 1; omega
 unfold atI; rw [e]; exact h
theorem mulOk (i j:Int) (h1:-3000≤i) (h2:i≤3000):CMul i j:=.inl ⟨Int.lt_of_lt_of_le (by decide) h1,Int.lt_of_le_of_lt h2 (by decide)⟩
theorem mulW (a b:Int) (j:Int) (h1:-4611686018427387904≤a) (h2:a≤4611686018427387904) (h3:-4611686018427387904≤b) (h4:b≤4611686018427387904):CMul (b - a) j:=by
 left; constructor <;> omega
theorem IsPt.same {H H':Hp} {v:V} {p:Pt} (h:IsPt H v p) (s:Same H H'):IsPt H' v p:=IsPt.keep h (Same.keep s)
theorem comp_list {K:PySem.W.Frag} {a D:Addr} {xs:List V} {g:TG} {tt:TT} {te:TE} {R:Hp→Prop} {σ0:St} {H:Hp} (Pv:Nat→St→Hp→Prop) (h0:Pv 0 σ0 H) (hl:∀ i σ H,i≤xs.length→Pv i σ H→SqL K H a xs)
  (hs:∀ i x σ H,xs[i]? = some x→Pv i σ H→g x σ H fun σ3 H3=>tt σ3 H3 fun ok H4=>if ok = true then te σ3 H4 fun y H5=>∃ ys,H5 D = some (.lst ys)∧ys.length < sizeLine∧Pv (i+1) σ3 (upd H5 D (.lst (ys++[y]))) else Pv (i+1) σ3 H4)
  (hd:∀ σ H,Pv xs.length σ H→R H) :
  ∃ W:Nat→Nat→St→Hp→Prop,(∃ m,W 0 m σ0 H)∧∀ i m σ' H',W i m σ' H' →
   ((Itl K a).stop i H'∧R H')∨((Itl K a).go i H'∧∃ N:St→Hp→Prop,(∀ σ2 H2,N σ2 H2→∃ m',m' < m∧W (i+1) m' σ2 H2) ∧
    ∀ x H2,(Itl K a).yld i H' x H2→g x σ' H2 fun σ3 H3=>tt σ3 H3 fun ok H4=>if ok = true then te σ3 H4 fun y H5=>∃ ys,H5 D = some (.lst ys)∧ys.length < sizeLine∧N σ3 (upd H5 D (.lst (ys++[y]))) else N σ3 H4):=by
 refine ⟨fun i m σ H=>m = xs.length - i∧i≤xs.length∧Pv i σ H,⟨xs.length,by simp,Nat.zero_le _,h0⟩,?_⟩
 rintro i m σ H ⟨rfl,hi,p⟩
 have q:=hl i σ H hi p
 by_cases hlt:i < xs.length
 ·refine .inr ⟨⟨xs,xs[i],q,by simp [hlt]⟩,Pv (i+1),fun σ' H' p'=>⟨xs.length - (i+1),by omega,rfl,hlt,p'⟩,fun x H' y=>?_⟩
  obtain ⟨e,y⟩:=y
  subst e
  exact hs i x σ _ (y xs q) p
 ·have e:i = xs.length:=by omega
  subst e
  exact .inl ⟨⟨xs,q,Nat.le_refl _⟩,hd σ H p⟩
def ifBody:Stmt→List Stmt
 | .If _ b _ _=>b
 | _=>[]
def asgVal:Stmt→Expr
 | .Assign _ v _=>v
 | _=>.Constant .none 0 ⟨0,0,0,0⟩
def lcScope (d:Scope):Expr→Scope
 | .ListComp _ _ s _=>s
 | _=>d
def nth (l:List Stmt) (i:Nat):Stmt:=l.getD i (.Pass ⟨0,0,0,0⟩)
theorem ixt {X:Cx} {K':PySem.W.Frag} (h:X.K = K'):IxR X (rIxT K'):=h ▸ ix_tup
theorem ixl {X:Cx} {K':PySem.W.Frag} (h:X.K = K'):IxR X (rIxL K'):=h ▸ ix_list
end L2
set_option maxRecDepth 100000
namespace L2
open PySem PySem.Spec PyProof.Rows Geo
section
variable {X:Cx} {pins:List (Addr×Obj)} {σ:St} {H:Hp} {s:Shared} {h':Heap}
theorem Inv.turnedNew {ch:List Addr} {T:Addr} {o:HO} {t':Nat} (I:Inv X pins σ H s) (k:∀ b u,b ∉ ch→s.heap.get? b = some u→h'.get? b = some u) (hf:∀ b ∈ ch,FpOk X pins H b) (hT:s.heap.objs.size≤T)
  (new:ObjOk X.prog X.w (upd H T o) h' T o):Inv X pins σ (upd H T o) { s with heap:=h',toks:=t' }:=by
 have nT:H T = none:=I.hok.fresh hT
 have neT:∀ b u,H b = some u→b ≠ T:=fun b u e=>ne_of_none e nT
 have nch:∀ b u,H b = some u→b ∉ ch:=fun b u e hb=>by
  have:=(hf b hb).1
  rw [e] at this; cases this
 refine I.step (g':=s.gens) (d':=s.drawn) (ch:=ch) (fun b hb=>?_) (fun b o _ _ hc e _=>k b o hc e) (fun b o _ _ hc e _=>⟨o.slots,k b o hc e⟩) (fun b o _ e n=>?_) (fun b o hc e=>⟨o,k b o hc e⟩)
  (fun b xs e=>by rw [upd_ne (neT b _ e)]; exact e) (fun b ob u e=>by rw [upd_ne (neT b _ e)]; exact e) (fun b ps e=>⟨#[],by rw [upd_ne (neT b _ e),e]; simp⟩) (fun m hm=>?_) (fun b u e=>?_) I.bare
 ·obtain ⟨f0,f1,f2,f3,f4,f5⟩:=hf b hb
  exact ⟨f3,f1,f4,f5⟩
 ·have:b ≠ T:=Nat.ne_of_lt (Nat.lt_of_lt_of_le (Heap.lt_size e) hT)
  rw [upd_ne this]; exact n
 ·obtain ⟨o,es,ep,ho,r⟩:=hm
  exact ⟨o,es,ep,k _ o (fun hb=>(hf _ hb).2.1 rfl) ho,r⟩
 ·by_cases hb:b = T
  ·subst hb; rw [upd_same] at e; cases e; exact new
  ·rw [upd_ne hb] at e
   refine (I.hok b u e).stay (fun c v hc q=>k c v ?_ q) (fun c q=>by rw [upd_ne (neT c _ q)]; exact q) fun c xs q=>by rw [upd_ne (neT c _ q)]; exact q
   rcases hc with z | z
   ·rw [z]; exact nch b u e
   ·exact nch c _ z
theorem Inv.turnedL {ch:List Addr} {t':Nat} (I:Inv X pins σ H s) (k:∀ b u,b ∉ ch→s.heap.get? b = some u→h'.get? b = some u) (hf:∀ b ∈ ch,FpOk X pins H b):Inv X pins σ H { s with heap:=h',toks:=t' }:=by
 have nch:∀ b u,H b = some u→b ∉ ch:=fun b u e hb=>by
  have:=(hf b hb).1
  rw [e] at this; cases this
 refine I.step (g':=s.gens) (d':=s.drawn) (ch:=ch) (fun b hb=>?_) (fun b o _ _ hc e _=>k b o hc e) (fun b o _ _ hc e _=>⟨o.slots,k b o hc e⟩) (fun _ _ _ _ n=>n) (fun b o hc e=>⟨o,k b o hc e⟩)
  (fun _ _ e=>e) (fun _ _ _ e=>e) (fun b ps e=>⟨#[],by rw [e]; simp⟩) (fun m hm=>?_) (fun b u e=>?_) I.bare
 ·obtain ⟨f0,f1,f2,f3,f4,f5⟩:=hf b hb
  exact ⟨f3,f1,f4,f5⟩
 ·obtain ⟨o,es,ep,ho,r⟩:=hm
  exact ⟨o,es,ep,k _ o (fun hb=>(hf _ hb).2.1 rfl) ho,r⟩
 ·refine (I.hok b u e).stay (fun c v hc q=>k c v ?_ q) (fun _ q=>q) fun _ _ q=>q
  rcases hc with z | z
  ·rw [z]; exact nch b u e
  ·exact nch c _ z
end
def Itz (K:PySem.W.Frag) (l1 l2:Addr):It :=
  ⟨fun i H=>∃ xs ys x y,SqL K H l1 xs∧SqL K H l2 ys∧xs[i]? = some x∧ys[i]? = some y,
   fun i H v H'=>∃ T,v = .ref T∧H T = none∧∀ xs ys,SqL K H l1 xs→SqL K H l2 ys→∃ x y,xs[i]? = some x∧ys[i]? = some y∧H' = upd H T (.tup [x,y]),
   fun i H=>∃ xs ys,SqL K H l1 xs∧SqL K H l2 ys∧(xs.length≤i∨ys.length≤i)⟩
theorem turn_zip {P:Program} {w:World} {K:PySem.W.Frag} {elts:List Expr} {kt:Nat} {pt:Pos} {z TI TO i1 i2 l1 l2:Addr} (D:ZipApart z TI TO i1 i2 l1 l2) :
  Turn P w K (.Tuple elts kt pt) (Itz K l1 l2) [z,TI,TO,i1,i2] z (fun i h=>IsZip h z TI TO .none∧IsPair h TI (.ref i1) (.ref i2)∧(∃ a b,IsPair h TO a b)∧h.IsListIter i1 l1 i∧h.IsListIter i2 l2 i) where
 mem:=by simp
 obj:=fun i h st b hb=>by
  obtain ⟨hz,hTI,⟨a,b',hTO⟩,⟨o1,e1,c1,d1⟩,⟨o2,e2,c2,d2⟩⟩:=st
  simp only [List.mem_cons,List.not_mem_nil,or_false] at hb
  rcases hb with rfl | rfl | rfl | rfl | rfl
  ·exact ⟨_,hz,fun v e=>by have e':Data.fields _ = Data.cell v:=e; cases e'⟩
  ·exact ⟨_,hTI,fun v e=>by have e':Data.seq _ _ = Data.cell v:=e; cases e'⟩
  ·exact ⟨_,hTO,fun v e=>by have e':Data.seq _ _ = Data.cell v:=e; cases e'⟩
  ·exact ⟨o1,e1,fun v e=>by rw [d1] at e; cases e⟩
  ·exact ⟨o2,e2,fun v e=>by rw [d2] at e; cases e⟩
 keep:=fun i h h' st k=>by
  obtain ⟨hz,hTI,⟨a,b,hTO⟩,h1,h2⟩:=st
  exact ⟨k z (by simp) _ hz,k TI (by simp) _ hTI,⟨a,b,k TO (by simp) _ hTO⟩,h1.at fun o e=>k i1 (by simp) o e,h2.at fun o e=>k i2 (by simp) o e⟩
 item:=by
  intro X hP hw hK hc i pins s σ H E I hf st hg
  subst hP hw hK
  obtain ⟨xs,ys,x,y,q1,q2,hx,hy⟩:=hg
  obtain ⟨its1,rv1,p1,_⟩:=I.list q1
  obtain ⟨its2,rv2,p2,_⟩:=I.list q2
  obtain ⟨u1,hu1,ru1⟩:=rv1.get hx
  obtain ⟨u2,hu2,ru2⟩:=rv2.get hy
  obtain ⟨hz,hTI,⟨a,b,hTO⟩,h1,h2⟩:=st
  have l1':i1 < s.heap.objs.size:=by obtain ⟨_,e,_⟩:=h1; exact Heap.lt_size e
  have l2':i2 < s.heap.objs.size:=by obtain ⟨_,e,_⟩:=h2; exact Heap.lt_size e
  refine wpAny_pyNext_zip_item D hz hTI hTO h1 h2 p1.isList p2.isList (x:=u1) (y:=u2) (by simpa using hu1) (by simpa using hu2) fun h' a1 a2 a3 a4 a5 a6 hk=>?_
  refine ⟨.ref s.heap.objs.size,rfl,?_⟩
  refine wpAny_letOwnedTupleGo_zip (s:={ s with heap:=h' }) a1 fun h'' hz' hs'=>?_
  have kk:∀ b u,b ∉ [z,TO,i1,i2]→s.heap.get? b = some u→h''.get? b = some u:=fun b u hb e=>by
   simp only [List.mem_cons,List.not_mem_nil,or_false,not_or] at hb
   exact hs'.extBut _ _ hb.1 (hk b u hb.1 hb.2.1 hb.2.2.1 hb.2.2.2 e)
  have Tz:s.heap.objs.size ≠ z:=Nat.ne_of_gt (Heap.lt_size hz)
  have tup:h''.get? s.heap.objs.size = some { cls:=.type "tuple",data:=.seq #[u1,u2] }:=hs'.extBut _ _ Tz a5
  have I1:Inv X pins σ (upd H s.heap.objs.size (.tup [x,y])) { s with heap:=h'' }:=I.turnedNew (t':=s.toks) (ch:=[z,TO,i1,i2]) kk (fun b hb=>hf b (by
   simp only [List.mem_cons,List.not_mem_nil,or_false] at hb ⊢
   rcases hb with e | e | e | e <;> simp [e])) (Nat.le_refl _) ⟨by show 2≤sizeLine; decide,[u1,u2],.cons ru1 (.cons ru2 .nil),⟨_,tup,rfl,_,rfl⟩⟩
  refine ⟨.ref s.heap.objs.size,_,I1,rfl,⟨s.heap.objs.size,rfl,I.hok.fresh (Nat.le_refl _),fun xs' ys' e1 e2=>⟨x,y,?_,?_,rfl⟩⟩,
   ⟨hz',hs'.extBut _ _ D.TIz (hk _ _ D.TIz D.TITO D.TIi1 D.TIi2 hTI),⟨_,_,hs'.extBut _ _ D.TOz a2⟩,a3.extBut hs'.extBut D.i1z,a4.extBut hs'.extBut D.i2z⟩,fun b hb=>?_⟩
  ·rw [I.list_inj e1 q1]; exact hx
  ·rw [I.list_inj e2 q2]; exact hy
  ·have lb:b < s.heap.objs.size:=by
    simp only [List.mem_cons,List.not_mem_nil,or_false] at hb
    rcases hb with rfl | rfl | rfl | rfl | rfl
    ·exact Heap.lt_size hz
    ·exact Heap.lt_size hTI
    ·exact Heap.lt_size hTO
    ·exact l1'
    ·exact l2'
   rw [upd_ne (Nat.ne_of_lt lb)]
   exact (hf b hb).1
 done:=by
  intro X hP hw hK hc i pins s σ H E I hf st hg
  subst hP hw hK
  obtain ⟨xs,ys,q1,q2,hl⟩:=hg
  obtain ⟨its1,rv1,p1,_⟩:=I.list q1
  obtain ⟨its2,rv2,p2,_⟩:=I.list q2
  obtain ⟨hz,hTI,⟨a,b,hTO⟩,h1,h2⟩:=st
  have e1:=rv1.length
  have e2:=rv2.length
  refine wpAny_pyNext_zip_end (I.ok.hd hc) D hz hTI hTO h1 h2 p1.isList p2.isList (hl.imp (fun z=>by simp; omega) (fun z=>by simp; omega)) fun h' hk=>⟨rfl,?_⟩
  refine I.turnedL (t':=s.toks) (ch:=[z,TO,i1,i2]) (fun b u hb e=>?_) (fun b hb=>hf b (by
   simp only [List.mem_cons,List.not_mem_nil,or_false] at hb ⊢
   rcases hb with e | e | e | e <;> simp [e]))
  simp only [List.mem_cons,List.not_mem_nil,or_false,not_or] at hb
  exact hk b u hb.1 hb.2.1 hb.2.2.1 hb.2.2.2 e
 self:=fun _ _ _ _ _ st h=>wpAny_pyIter_zip st.1 h
def iZip (K:PySem.W.Frag) (ta:TA):TI:=fun σ H R=>ta σ H fun vs H1=>∃ a b,vs = [.ref a,.ref b]∧(∃ xs,SqL K H1 a xs)∧(∃ ys,SqL K H1 b ys)∧R (Itz K a b) H1
theorem boot_zip':bootBuiltins "zip" = some (.type "zip"):=by decide +kernel
theorem pi_zip {X:Cx} {a b:Expr} {ta:TA} {p pos:Pos} {elts:List Expr} {kt:Nat} {pt:Pos} (hg:Gl X "zip") (hm:X.mg "zip" = none) (ha:PA X [a,b] ta) (hs:starEach [a,b] X.env = [(false,eval a X.env),(false,eval b X.env)]:=by rfl) (hs2:starEach [b] X.env = [(false,eval b X.env)]:=by rfl) :
  PI X (.Tuple elts kt pt) (.Call (.Name "zip" p) [a,b] [] pos) (iZip X.K ta):=by
 intro pins s σ H R I h
 refine Call_ (ld_blt I hg hm boot_zip' (PyProof.Rows.callWith_type1 (thn (ha pos pins s σ H _ I h) fun us s1 ⟨vs,H1,I1,r1,q1⟩=>?_) (by rw [hs,hs2]) (by rw [hs2]; rfl)))
 obtain ⟨l1,l2,e,⟨xs,q1⟩,⟨ys,q2⟩,q⟩:=q1
 subst e
 cases r1 with
 | cons r rr =>
  cases rr with
  | cons r' rr =>
   cases rr
   cases r
   cases r'
   obtain ⟨its1,rv1,p1,_⟩:=I1.list q1
   obtain ⟨its2,rv2,p2,_⟩:=I1.list q2
   have a1:l1 < s1.heap.objs.size:=by obtain ⟨_,e,_⟩:=p1.isList; exact Heap.lt_size e
   have a2:l2 < s1.heap.objs.size:=by obtain ⟨_,e,_⟩:=p2.isList; exact Heap.lt_size e
   refine call_zip_2 p1.isList p2.isList fun h' hz hTI hTO hi1 hi2 hsz hk=>wpAny_pyIter_zip hz ?_
   refine ⟨_,[s1.heap.objs.size+4,s1.heap.objs.size+2,s1.heap.objs.size+3,s1.heap.objs.size,s1.heap.objs.size+1],_,_,H1,rfl,I1.kept (t':=s1.toks) hk,turn_zip (zipApart_new a1 a2),⟨hz,hTI,⟨_,_,hTO⟩,hi1,hi2⟩,fun b hb=>?_,q⟩
   have hb':s1.heap.objs.size≤b:=by
    simp only [List.mem_cons,List.not_mem_nil,or_false] at hb
    rcases hb with rfl | rfl | rfl | rfl | rfl <;> omega
   have J:=I1.kept (t':=s1.toks) (h':=s1.heap) fun b u e=>e
   exact I1.fpOk hb' (I1.hok.fresh hb')
theorem comp_zip {K:PySem.W.Frag} {a b D:Addr} {xs ys:List V} {g:TG} {tt:TT} {te:TE} {R:Hp→Prop} {σ0:St} {H:Hp} (Pv:Nat→St→Hp→Prop) (h0:Pv 0 σ0 H) (hn:xs.length = ys.length) (hl:∀ i σ H,i≤xs.length→Pv i σ H→SqL K H a xs∧SqL K H b ys)
  (hs:∀ i x y T σ H,xs[i]? = some x→ys[i]? = some y→Pv i σ H→H T = none→g (.ref T) σ (upd H T (.tup [x,y])) fun σ3 H3=>tt σ3 H3 fun ok H4=>if ok = true then te σ3 H4 fun y H5=>∃ ys,H5 D = some (.lst ys)∧ys.length < sizeLine∧Pv (i+1) σ3 (upd H5 D (.lst (ys++[y]))) else Pv (i+1) σ3 H4)
  (hd:∀ σ H,Pv xs.length σ H→R H) :
  ∃ W:Nat→Nat→St→Hp→Prop,(∃ m,W 0 m σ0 H)∧∀ i m σ' H',W i m σ' H' →
   ((Itz K a b).stop i H'∧R H')∨((Itz K a b).go i H'∧∃ N:St→Hp→Prop,(∀ σ2 H2,N σ2 H2→∃ m',m' < m∧W (i+1) m' σ2 H2) ∧
    ∀ x H2,(Itz K a b).yld i H' x H2→g x σ' H2 fun σ3 H3=>tt σ3 H3 fun ok H4=>if ok = true then te σ3 H4 fun y H5=>∃ ys,H5 D = some (.lst ys)∧ys.length < sizeLine∧N σ3 (upd H5 D (.lst (ys++[y]))) else N σ3 H4):=by
 refine ⟨fun i m σ H=>m = xs.length - i∧i≤xs.length∧Pv i σ H,⟨xs.length,by simp,Nat.zero_le _,h0⟩,?_⟩
 rintro i m σ H ⟨rfl,hi,p⟩
 obtain ⟨q1,q2⟩:=hl i σ H hi p
 by_cases hlt:i < xs.length
 ·refine .inr ⟨⟨xs,ys,xs[i],ys[i],q1,q2,by simp [hlt],by simp [hn ▸ hlt]⟩,Pv (i+1),fun σ' H' p'=>⟨xs.length - (i+1),by omega,rfl,hlt,p'⟩,fun x H' y=>?_⟩
  obtain ⟨T,rfl,nT,hy⟩:=y
  obtain ⟨x',y',e1,e2,rfl⟩:=hy xs ys q1 q2
  exact hs i x' y' T σ _ e1 e2 p nT
 ·have e:i = xs.length:=by omega
  subst e
  exact .inl ⟨⟨xs,ys,q1,q2,.inl (Nat.le_refl _)⟩,hd σ H p⟩
theorem mt_indexP {X:Cx} (hu:X.A.units+16 < cLine):MtR X "list.index" (fun x vs H Q=>∃ b ys qs v p j,x = .ref b∧vs = [v]∧SqL X.K H b ys∧ArePts H ys qs∧IsPt H v p∧qs[j]? = some p∧(∀ i,i < j→qs[i]? ≠ some p)∧qs.length≤1000∧Q (.int (j:Nat)) H):=by
 intro pins s σ H x vs v us Q I rx rv h
 obtain ⟨b,ys,qs,v',p,j,rfl,rfl,hb,hq,hp,hj,hno,hlen,k⟩:=h
 cases rx
 obtain ⟨u,rfl,ru⟩:=rv.one
 obtain ⟨its,r2,l2,_⟩:=I.list hb
 have tx:=I.tupAt ru hp
 have ty:=I.tupsAt r2 hq
 have hf:∀ u q,TupAt s.heap u q→ptOf s.heap u p = decide (q = p):=fun u q hq=>by
  unfold ptOf
  exact decide_eq_decide.mpr ⟨fun z=>hq.inj z,fun e=>e ▸ hq⟩
 have lty:=ty.length
 have hjl:=(List.getElem?_eq_some_iff.mp hj).1
 obtain ⟨⟨cls,dd,data,sl⟩,ho,hc,n,hd⟩:=l2.isList
 simp only at hc hd
 subst hc hd
 refine call_meets F.slot_list_index ⟨_,ho,rfl⟩ F.entry_list_index (F.args_list_index_2 _ _) (SeqAt.list_indexAt b its.toArray n dd sl u (ptOf s.heap · p) j (by simp; omega) (by omega) ?_ ?_) ⟨ho,fun w hw=>?_,⟨.int j,H,I.tok _,⟨_,rfl⟩,k⟩⟩
 ·obtain ⟨q,q1,q2⟩:=Pair.get ty (i:=j) (x:=its[j]) (by simp)
  rw [hj] at q1; cases q1
  simp only [List.getElem_toArray]
  rw [hf _ p q2]; simp
 ·intro m hm hmj
  have hm':m < its.length:=by simpa using hm
  obtain ⟨q,q1,q2⟩:=Pair.get ty (i:=m) (x:=its[m]) (by simp)
  simp only [List.getElem_toArray]
  rw [hf _ q q2]
  exact decide_eq_false fun e=>hno m hmj (e ▸ q1)
 ·obtain ⟨i,hi⟩:=List.mem_iff_getElem?.mp (by simpa using hw:w ∈ its)
  obtain ⟨q,_,hq⟩:=Pair.get ty hi
  rw [hf w q hq]
  exact eq_pt (by show X.A.units+1 < cLine; omega) hq tx
end L2
set_option maxRecDepth 100000
namespace L2
open PySem PySem.Spec PyProof.Rows Geo
def IsTri (H:Hp) (v:V) (t:Tri):Prop:=∃ a,v = .ref a∧H a = some (.tup [.int t.1,.int t.2.1,.int t.2.2])
abbrev AreTri (H:Hp):List V→List Tri→Prop:=Paired (IsTri H)
theorem IsTri.keep {H H':Hp} {v:V} {p:Tri} (h:IsTri H v p) (k:Keep H H'):IsTri H' v p:=by
 obtain ⟨a,e,h⟩:=h; exact ⟨a,e,k _ _ h⟩
theorem IsTri.same {H H':Hp} {v:V} {p:Tri} (h:IsTri H v p) (k:Same H H'):IsTri H' v p:=h.keep k.keep
theorem AreTri.keep {H H':Hp} {vs:List V} {ps:List Tri} (h:AreTri H vs ps) (k:Keep H H'):AreTri H' vs ps:=Paired.mapP h fun _ _ z=>z.keep k
theorem AreTri.same {H H':Hp} {vs:List V} {ps:List Tri} (h:AreTri H vs ps) (k:Same H H'):AreTri H' vs ps:=h.keep k.keep
theorem ArePts.same {H H':Hp} {vs:List V} {ps:List Pt} (h:ArePts H vs ps) (k:Same H H'):ArePts H' vs ps:=ArePts.keep h k.keep
def IsSh (H:Hp) (v:V) (e:Pt×Int):Prop:=∃ a c,v = .ref a∧H a = some (.tup [c,.int e.2])∧IsPt H c e.1
abbrev AreSh (H:Hp):List V→List (Pt×Int)→Prop:=Paired (IsSh H)
theorem IsSh.keep {H H':Hp} {v:V} {p:Pt×Int} (h:IsSh H v p) (k:Keep H H'):IsSh H' v p:=by
 obtain ⟨a,c,e,h,h2⟩:=h; exact ⟨a,c,e,k _ _ h,h2.keep k⟩
theorem AreSh.same {H H':Hp} {vs:List V} {ps:List (Pt×Int)} (h:AreSh H vs ps) (k:Same H H'):AreSh H' vs ps:=Paired.mapP h fun _ _ z=>z.keep k.keep
theorem mulR (i j:Int) (h1:-4611686018427387904≤j) (h2:j≤4611686018427387904):CMul i j:=by
 right; constructor <;> omega
theorem mulL (i j:Int) (h1:-4611686018427387904≤i) (h2:i≤4611686018427387904):CMul i j:=by
 left; constructor <;> omega
theorem cut_one (xs:List V):cutV xs none (some 1) = xs.take 1:=by
 unfold cutV
 rw [show HT.sIx xs.length 0 none = 0 from rfl,List.drop_zero,Nat.sub_zero]
 have:HT.sIx xs.length xs.length (some 1) = min 1 xs.length:=rfl
 rw [this]
 cases xs with
 | nil=>rfl
 | cons a r=>simp
theorem cut_tail (xs:List V):cutV xs (some 1) none = xs.drop 1:=by
 unfold cutV
 have:HT.sIx xs.length 0 (some 1) = min 1 xs.length:=rfl
 rw [show HT.sIx xs.length xs.length none = xs.length from rfl,this]
 cases xs with
 | nil=>rfl
 | cons a r=>simp
theorem Paired.of_map {α β:Type} {F:α→β→Prop}:∀ {xs:List α} {ys:List β},xs.length = ys.length→(∀ (i:Nat) x y,xs[i]? = some x→ys[i]? = some y→F x y)→Paired F xs ys
 | [],[],_,_=>.nil
 | x :: xs,y :: ys,e,h=>.cons (h 0 x y rfl rfl) (Paired.of_map (by simpa using e) fun i a b ha hb=>h (i+1) a b (by simpa using ha) (by simpa using hb))
end L2
namespace L2
open PySem
theorem pgt {X:Cx} {K':PySem.W.Frag} {e:Expr} {n:Nat} {t:TGs} (h:X.K = K') (hp:PG X e (gTup X.K n t)):PG X e (gTup K' n t):=h ▸ hp
theorem take_snoc {α:Type} {l:List α} {i:Nat} {x:α} (h:l[i]? = some x):l.take (i+1) = l.take i++[x]:=by rw [List.take_add_one,h]; rfl
end L2
set_option maxRecDepth 100000
set_option linter.all false
namespace L2
open PySem PySem.Spec PyProof.Rows
section
variable {κ:Type} [DecidableEq κ]
def valV (kvs:List (κ×V)) (k:κ):Option V:=(kvs.find? fun kv=>decide (kv.1 = k)).map (·.2)
def putK (kvs:List (κ×V)) (k:κ) (v:V):List (κ×V) :=
 if (kvs.any fun kv=>decide (kv.1 = k)) = true then kvs.map (fun kv=>if kv.1 = k then (kv.1,v) else kv) else kvs++[(k,v)]
def dropK (kvs:List (κ×V)) (k:κ):List (κ×V):=kvs.filter fun kv=>decide (kv.1 ≠ k)
theorem valV_pos {p:κ×V} {r:List (κ×V)} {k:κ} (e:p.1 = k):valV (p :: r) k = some p.2:=by simp [valV,List.find?_cons,e]
theorem valV_neg {p:κ×V} {r:List (κ×V)} {k:κ} (e:¬ p.1 = k):valV (p :: r) k = valV r k:=by simp [valV,List.find?_cons,e]
theorem valV_any (k:κ):∀ kvs:List (κ×V),(kvs.any fun kv=>decide (kv.1 = k)) = (valV kvs k).isSome
 | []=>rfl
 | p :: r=>by
  rw [List.any_cons]
  by_cases e:p.1 = k
  ·simp only [valV_pos e,decide_eq_true e,Bool.true_or,Option.isSome_some]
  ·rw [valV_neg e,decide_eq_false e,Bool.false_or]; exact valV_any k r
theorem length_putK (kvs:List (κ×V)) (k:κ) (v:V):(putK kvs k v).length≤kvs.length+1:=by
 unfold putK
 split
 ·rw [List.length_map]; omega
 ·rw [List.length_append,List.length_cons,List.length_nil]; omega
theorem RelO.isSome_eq {o:Option V} {u:Option Value} (r:RelO o u):o.isSome = u.isSome:=by
 cases o with
 | none=>cases u with
  | none=>rfl
  | some _=>exact (show False from r).elim
 | some _=>cases u with
  | none=>exact (show False from r).elim
  | some _=>rfl
theorem RelO.getD {o:Option V} {u:Option Value} {d:V} {d':Value} (r:RelO o u) (rd:RelV d d'):RelV (o.getD d) (u.getD d'):=by
 cases o with
 | none=>cases u with
  | none=>exact rd
  | some _=>exact (show False from r).elim
 | some _=>cases u with
  | none=>exact (show False from r).elim
  | some _=>exact r
theorem KV.val {kvs:List (κ×V)} {vs:List (κ×Value)} (r:KV kvs vs) (k:κ):RelO (valV kvs k) (valueAt vs k):=by
 unfold KV at r
 induction r with
 | nil=>exact True.intro
 | @cons p q ps qs h t ih =>
  obtain ⟨h1,h2⟩:=h
  by_cases e:p.1 = k
  ·have e':q.1 = k:=h1.symm.trans e
   have b:valueAt (q :: qs) k = some q.2:=by simp [valueAt,List.find?_cons,e']
   rw [valV_pos e,b]; exact h2
  ·have e':¬ q.1 = k:=fun z=>e (h1.trans z)
   have b:valueAt (q :: qs) k = valueAt qs k:=by simp [valueAt,List.find?_cons,e']
   rw [valV_neg e,b]; exact ih
theorem KV.any {kvs:List (κ×V)} {vs:List (κ×Value)} (r:KV kvs vs) (k:κ):(kvs.any fun kv=>decide (kv.1 = k)) = vs.any fun kv=>decide (kv.1 = k):=by
 unfold KV at r
 induction r with
 | nil=>rfl
 | cons h t ih=>rw [List.any_cons,List.any_cons,ih,h.1]
theorem KV.repl {kvs:List (κ×V)} {vs:List (κ×Value)} (r:KV kvs vs) (k:κ) {y:V} {u:Value} (ry:RelV y u) :
  KV (kvs.map fun kv=>if kv.1 = k then (kv.1,y) else kv) (vs.map fun kv=>if kv.1 = k then (kv.1,u) else kv):=by
 unfold KV at r ⊢
 induction r with
 | nil=>exact .nil
 | @cons p q ps qs h t ih =>
  rw [List.map_cons,List.map_cons]
  refine .cons ?_ ih
  obtain ⟨h1,h2⟩:=h
  by_cases e:p.1 = k
  ·rw [if_pos e,if_pos (h1.symm.trans e)]; exact ⟨h1,ry⟩
  ·rw [if_neg e,if_neg (fun z=>e (h1.trans z))]; exact ⟨h1,h2⟩
theorem KV.put {kvs:List (κ×V)} {vs:List (κ×Value)} (r:KV kvs vs) (k:κ) {y:V} {u:Value} (ry:RelV y u):KV (putK kvs k y) (stored vs k u):=by
 unfold putK stored
 rw [r.any k]
 by_cases e:(vs.any fun kv=>decide (kv.1 = k)) = true
 ·rw [if_pos e,if_pos e]; exact r.repl k ry
 ·rw [if_neg e,if_neg e]; exact Paired.snoc r ⟨rfl,ry⟩
theorem KV.drop {kvs:List (κ×V)} {vs:List (κ×Value)} (r:KV kvs vs) (k:κ):KV (dropK kvs k) (without vs k):=by
 unfold KV at r ⊢
 unfold dropK without
 induction r with
 | nil=>exact .nil
 | @cons p q ps qs h t ih =>
  obtain ⟨h1,h2⟩:=h
  rw [List.filter_cons,List.filter_cons]
  by_cases e:p.1 = k
  ·have a:¬ decide (p.1 ≠ k) = true:=by simp [e]
   have b:¬ decide (q.1 ≠ k) = true:=by simp [h1.symm.trans e]
   rw [if_neg a,if_neg b]; exact ih
  ·have e':¬ q.1 = k:=fun z=>e (h1.trans z)
   have a:decide (p.1 ≠ k) = true:=by simp [e]
   have b:decide (q.1 ≠ k) = true:=by simp [e']
   rw [if_pos a,if_pos b]; exact .cons ⟨h1,h2⟩ ih
theorem KV.keys {kvs:List (κ×V)} {vs:List (κ×Value)} (r:KV kvs vs):kvs.map (·.1) = vs.map (·.1):=by
 unfold KV at r
 induction r with
 | nil=>rfl
 | cons h t ih=>rw [List.map_cons,List.map_cons,ih,h.1]
theorem KV.length {kvs:List (κ×V)} {vs:List (κ×Value)} (r:KV kvs vs):kvs.length = vs.length:=Paired.length r
end
theorem kV_is {P:Program} {w:World} {k:Key} {u:Value} (r:RelV (kV k) u):(mixKind P w).is k u = true:=by
 cases k with
 | inl i=>obtain ⟨t,e⟩:=(show ∃ t,u = Value.int i t from r); subst e; exact mixKind_int P w i t
 | inr x=>obtain ⟨t,e⟩:=(show ∃ t,u = Value.str x t from r); subst e; exact mixKind_str P w x t
theorem items_are {P:Program} {w:World}:∀ {ks:List Key} {us:List Value},Vals (ks.map kV) us→ItemsAre (mixKind P w) ks us
 | [],_,r=>by rw [List.map_nil] at r; cases r; exact .nil
 | k :: ks,_,r=>by
  rw [List.map_cons] at r
  cases r with
  | cons h t=>exact .cons (kV_is h) (items_are t)
abbrev KT (H:Hp):List (List Key×V)→List (List Key×Addr×Value)→Prop:=Paired fun p q=>p.1 = q.1∧H q.2.1 = some (.tup (p.1.map kV))∧RelV p.2 q.2.2
theorem KT.val {H:Hp} {kvs:List (List Key×V)} {xs:List (List Key×Addr×Value)} (r:KT H kvs xs) (k:List Key):RelO (valV kvs k) ((atKey xs k).map (·.2)):=by
 induction r with
 | nil=>exact True.intro
 | @cons p q ps qs h t ih =>
  obtain ⟨h1,_,h2⟩:=h
  by_cases e:p.1 = k
  ·have e':q.1 = k:=h1.symm.trans e
   have b:atKey (q :: qs) k = some q.2:=by simp [atKey,List.find?_cons,e']
   rw [valV_pos e,b]; exact h2
  ·have e':¬ q.1 = k:=fun z=>e (h1.trans z)
   have b:atKey (q :: qs) k = atKey qs k:=by simp [atKey,List.find?_cons,e']
   rw [valV_neg e,b]; exact ih
theorem KT.repl {H:Hp} {kvs:List (List Key×V)} {xs:List (List Key×Addr×Value)} (r:KT H kvs xs) (k:List Key) {y:V} {u:Value} (ry:RelV y u) :
  KT H (kvs.map fun kv=>if kv.1 = k then (kv.1,y) else kv) (xs.map (putAt k u)):=by
 induction r with
 | nil=>exact .nil
 | @cons p q ps qs h t ih =>
  rw [List.map_cons,List.map_cons]
  refine .cons ?_ ih
  obtain ⟨h1,h2,h3⟩:=h
  unfold putAt
  by_cases e:p.1 = k
  ·rw [if_pos e,if_pos (h1.symm.trans e)]; exact ⟨h1,h2,ry⟩
  ·rw [if_neg e,if_neg (fun z=>e (h1.trans z))]; exact ⟨h1,h2,h3⟩
theorem KT.put {H:Hp} {kvs:List (List Key×V)} {xs:List (List Key×Addr×Value)} (r:KT H kvs xs) (k:List Key) {b:Addr} {y:V} {u:Value} (hb:H b = some (.tup (k.map kV))) (ry:RelV y u) :
  KT H (putK kvs k y) (storedH xs k b u):=by
 have e:(kvs.any fun kv=>decide (kv.1 = k)) = (atKey xs k).isSome:=by
  rw [valV_any,(r.val k).isSome_eq,Option.isSome_map]
 unfold putK storedH
 rw [e]
 by_cases q:(atKey xs k).isSome = true
 ·rw [if_pos q,if_pos q]; exact r.repl k ry
 ·rw [if_neg q,if_neg q]; exact Paired.snoc r ⟨rfl,hb,ry⟩
theorem KT.keeps {H H':Hp} {kvs:List (List Key×V)} {xs:List (List Key×Addr×Value)} (r:KT H kvs xs) (ht:∀ b ys,H b = some (.tup ys)→H' b = some (.tup ys)):KT H' kvs xs :=
 Paired.mapP r fun _ _ z=>⟨z.1,ht _ _ z.2.1,z.2.2⟩
section
variable {P:Program} {w:World} {H:Hp} {h:Heap} {a:Addr}
theorem rd_of {u:HO} (ok:HOk P w H h) (e:Rd H a u):ObjOk P w H h a u:=e.ok ok
theorem dk_rd {kvs:List (Key×V)} (ok:HOk P w H h) (e:Rd H a (.dK kvs)):kvs.length≤sizeLine∧(a == sysModules) = false∧∃ vs,KV kvs vs∧h.DictOf (mixKind P w) a vs :=
 show ObjOk P w H h a (.dK kvs) from rd_of ok e
theorem dk_of {kvs:List (Key×V)} (ok:HOk P w H h) (e:H a = some (.dK kvs)):kvs.length≤sizeLine∧(a == sysModules) = false∧∃ vs,KV kvs vs∧h.DictOf (mixKind P w) a vs:=dk_rd ok (.inl e)
theorem key_of {ks:List Key} (ok:HOk P w H h) (e:H a = some (.tup (ks.map kV))):(tupleKind (mixKind P w)).is h ks a:=by
 obtain ⟨_,its,r,o,h1,h2,n,h3⟩:=(show ObjOk P w H h a (.tup (ks.map kV)) from ok a _ e)
 exact ⟨o,its.toArray,n,h1,h2,h3,by simpa using items_are r⟩
theorem dt_rd {kvs:List (List Key×V)} (ok:HOk P w H h) (e:Rd H a (.dT kvs)):kvs.length≤sizeLine∧(a == sysModules) = false ∧
  ∃ xs,KT H kvs xs∧h.DictOfH (tupleKind (mixKind P w)) a xs:=by
 obtain ⟨z,y,xs,r,o,es,ep,h1,h2,h3,h4,h5⟩:=(show ObjOk P w H h a (.dT kvs) from rd_of ok e)
 refine ⟨z,y,xs,r,o,es,ep,h1,h2,h3,h4,fun x hx=>?_,h5⟩
 have all:∀ {l:List (List Key×V)} {m:List (List Key×Addr×Value)},KT H l m→∀ x ∈ m,(tupleKind (mixKind P w)).is h x.1 x.2.1:=by
  intro l m q
  induction q with
  | nil=>intro x hx; exact nomatch hx
  | @cons p q ps qs hq t ih =>
   intro x hx
   rcases List.mem_cons.mp hx with e | hx
   ·subst e
    exact key_of ok (by rw [← hq.1]; exact hq.2.1)
   ·exact ih x hx
 exact all r x hx
theorem dt_of {kvs:List (List Key×V)} (ok:HOk P w H h) (e:H a = some (.dT kvs)):kvs.length≤sizeLine∧(a == sysModules) = false ∧
  ∃ xs,KT H kvs xs∧h.DictOfH (tupleKind (mixKind P w)) a xs:=dt_rd ok (.inl e)
end
def DGet (H:Hp) (a:Addr) (y:V) (r:Option V):Prop :=
 (∃ kvs k,Rd H a (.dK kvs)∧y = kV k∧r = valV kvs k)∨∃ kvs k b,Rd H a (.dT kvs)∧y = .ref b∧H b = some (.tup (k.map kV))∧r = valV kvs k
def DPut (H:Hp) (a:Addr) (y v:V) (H':Hp):Prop :=
 (∃ kvs k,H a = some (.dK kvs)∧y = kV k∧kvs.length < sizeLine∧H' = upd H a (.dK (putK kvs k v))) ∨
 ∃ kvs k b,H a = some (.dT kvs)∧y = .ref b∧H b = some (.tup (k.map kV))∧kvs.length < sizeLine∧H' = upd H a (.dT (putK kvs k v))
theorem DGet.k {H:Hp} {a:Addr} {kvs:List (Key×V)} {k:Key} (e:H a = some (.dK kvs)):DGet H a (kV k) (valV kvs k):=.inl ⟨kvs,k,.inl e,rfl,rfl⟩
theorem DGet.t {H:Hp} {a b:Addr} {kvs:List (List Key×V)} {k:List Key} (e:H a = some (.dT kvs)) (eb:H b = some (.tup (k.map kV))):DGet H a (.ref b) (valV kvs k):=.inr ⟨kvs,k,b,.inl e,rfl,eb,rfl⟩
theorem DPut.k {H:Hp} {a:Addr} {kvs:List (Key×V)} {k:Key} {v:V} (e:H a = some (.dK kvs)) (hl:kvs.length < sizeLine):DPut H a (kV k) v (upd H a (.dK (putK kvs k v))):=.inl ⟨kvs,k,e,rfl,hl,rfl⟩
theorem DPut.t {H:Hp} {a b:Addr} {kvs:List (List Key×V)} {k:List Key} {v:V} (e:H a = some (.dT kvs)) (eb:H b = some (.tup (k.map kV))) (hl:kvs.length < sizeLine) :
  DPut H a (.ref b) v (upd H a (.dT (putK kvs k v))):=.inr ⟨kvs,k,b,e,rfl,eb,hl,rfl⟩
section
variable {X:Cx} {pins:List (Addr×Obj)} {σ:St} {H:Hp} {s:Shared} {a:Addr} {y v:V} {u r:Value} {o:Option V} {A:Around} {E:Value→Shared→Prop}
theorem Inv.big (I:Inv X pins σ H s):sysModules < s.heap.objs.size:=by
 have h:mainGlobals < s.heap.objs.size:=(I.mod.glob.keeps I.bk).lt
 exact Nat.lt_trans (by decide) h
theorem d_getItem {Q:Value→Shared→Prop} (hu:A.units+1 < cLine) (I:Inv X pins σ H s) (g:DGet H a y (some v)) (ry:RelV y u) (h:∀ w' s',Inv X pins σ H s'→RelV v w'→Q w' s') :
  wpAny (model X.prog X.w) A (getItem (.ref a) u) Q E s:=by
 rcases g with ⟨kvs,k,e,ey,l⟩ | ⟨kvs,k,b,e,ey,eb,l⟩
 ·subst ey
  obtain ⟨z,hd,vs,rel,dd⟩:=dk_rd I.hok e
  obtain ⟨w',hw,rw'⟩:=RelO.some_of (v:=v) (o:=valueAt vs k) (by rw [l]; exact rel.val k)
  exact wpAny_getItem_of (kV_is ry) dd.mapOf hw (h w' _ (I.tok _) rw')
 ·subst ey
  cases (show u = Value.ref b from ry)
  obtain ⟨z,hd,xs,rel,dd⟩:=dt_rd I.hok e
  obtain ⟨w',hw,rw'⟩:=RelO.some_of (v:=v) (o:=(atKey xs k).map (·.2)) (by rw [l]; exact rel.val k)
  obtain ⟨p,hp,hp2⟩:=Option.map_eq_some_iff.mp hw
  refine wpAny_getItem_heap (tupleKind_room_in1 hu) (key_of I.hok eb) dd hp ?_
  rw [hp2]
  exact h w' _ (I.tok _) rw'
theorem d_write {h':Heap} {t':Nat} {ob:HO} (I:Inv X pins σ H s) (mu:Mut (H a)) (hs:Heap.SameBut a s.heap h') (he:∃ q,h'.get? a = some q) (new:ObjOk X.prog X.w (upd H a ob) h' a ob) :
  Inv X pins σ (upd H a ob) { s with heap:=h',toks:=t' } :=
 I.write (x:=a) (e:=a) mu (.inl rfl) (fun b q hb z=>(hs.2 b hb).trans z) he new
theorem dk_new {P:Program} {w:World} {H':Hp} {h':Heap} {kvs:List (Key×V)} {vs:List (Key×Value)} (z:kvs.length≤sizeLine) (hd:(a == sysModules) = false) (rel:KV kvs vs) (dd:h'.DictOf (mixKind P w) a vs) :
  ObjOk P w H' h' a (.dK kvs):=⟨z,hd,vs,rel,dd⟩
theorem d_setItem {H':Hp} {Q:Unit→Shared→Prop} (hu:A.units+1 < cLine) (I:Inv X pins σ H s) (g:DPut H a y v H') (ry:RelV y u) (rv:RelV v r) (h:∀ s',Inv X pins σ H' s'→Q () s') :
  wpAny (model X.prog X.w) A (setItem (.ref a) u r) Q E s:=by
 rcases g with ⟨kvs,k,e,ey,l,eH⟩ | ⟨kvs,k,b,e,ey,eb,l,eH⟩
 ·subst ey eH
  obtain ⟨z,hd,vs,rel,dd⟩:=dk_of I.hok e
  have hz:vs.length≤sizeLine:=by rw [← rel.length]; exact z
  have hl:(putK kvs k v).length≤sizeLine:=by have:=length_putK kvs k v; omega
  refine wpAny_setItem_pairs (hsz:=hz) (kV_is ry) dd fun h' dd' hs=>h _ ?_
  have he:∃ q,h'.get? a = some q:=let ⟨q,_,_,hq,_⟩:=dd'; ⟨q,hq⟩
  exact d_write I (by rw [e]; exact True.intro) hs he (dk_new hl hd (rel.put k rv) dd')
 ·subst ey eH
  cases (show u = Value.ref b from ry)
  obtain ⟨z,hd,xs,rel,dd⟩:=dt_of I.hok e
  have hz:xs.length≤sizeLine:=by rw [← Paired.length rel]; exact z
  have hl:(putK kvs k v).length≤sizeLine:=by have:=length_putK kvs k v; omega
  refine wpAny_setItem_heap (hsz:=hz) (tupleKind_room_in1 hu) (key_of I.hok eb) dd fun h' dd' hs=>h _ ?_
  obtain ⟨q,es,ep,hq,h2,h3,h4,_,h5⟩:=dd'
  refine d_write I (by rw [e]; exact True.intro) hs ⟨q,hq⟩ ⟨hl,hd,_,(rel.put k eb rv).keeps fun c ys ec=>?_,q,es,ep,hq,h2,h3,h4,h5⟩
  rw [upd_ne (ne_of ec e (fun z=>nomatch z))]
  exact ec
end
section
variable {X:Cx} {pins:List (Addr×Obj)} {σ:St} {H:Hp} {s:Shared} {a:Addr} {kvs:List (Key×V)} {k:Key} {u:Value} {A:Around} {E:Value→Shared→Prop}
end
def NoSl (i:Expr):Prop:=∀ ov iv,subscripted i false ov iv = operate [ov,iv] (getItem ov iv)
theorem subD_of {prog:Program} {w:World} {A:Around} {E:Value→Shared→Prop} {s:Shared} {env:Env} {value slice:Expr} {pos:Pos} {T id:String} {Q:Value→Shared→Prop}
  (hl:typeLookup (.type T) "__getitem__" = pure (some (.builtin id))) (hs:NoSl slice)
  (h:wpAny (model prog w) A (eval value env) (fun o s₁=>wpAny (model prog w) A (eval slice env) (fun i s₂=>s₂.TypeIs o T∧wpAny (model prog w) A (getItem o i) Q E s₂) E s₁) E s) :
  wpAny (model prog w) A (eval (.Subscript value slice pos) env) Q E s:=by
 refine Subscript_ (wpAny_mono h (fun o s₁ h₁=>wpAny_mono h₁ (fun i s₂ h₂=>?_) fun _ _ x=>x) fun _ _ x=>x)
 obtain ⟨hT,h₂⟩:=h₂
 unfold subscriptTail
 refine wpAny_bind ?_
 rw [getitemInPython_of_ne hT.not_modules]
 refine wpAny_bind (wpAny_specialOf hT hl ?_)
 have fin:wpAny (model prog w) A (subscripted slice false o i) (fun r s₃=>wpAny (model prog w) A (letTemporaryGo value o r >>= fun _=>pure r) Q E s₃) E s₂:=by
  rw [hs o i]
  exact wpAny_operating (wpAny_mono h₂ (fun r s₃ h₃=>wpAny_bind (wpAny_letTemporaryGo (wpAny_pure h₃))) fun _ _ x=>x)
 first
  | exact wpAny_pure (wpAny_bind fin)
  | exact wpAny_bind (wpAny_pure (wpAny_bind fin))
  | exact wpAny_bind fin
theorem dict_typeIs {X:Cx} {pins:List (Addr×Obj)} {σ:St} {H:Hp} {s:Shared} {a:Addr} {y:V} {o:Option V} (I:Inv X pins σ H s) (g:DGet H a y o):s.TypeIs (.ref a) "dict":=by
 rcases g with ⟨kvs,k,e,_,_⟩ | ⟨kvs,k,b,e,_,_,_⟩
 ·obtain ⟨_,_,vs,_,dd⟩:=dk_rd I.hok e
  exact dd.typeIs
 ·obtain ⟨_,_,xs,_,dd⟩:=dt_rd I.hok e
  exact dd.typeIs
def tDGet (td ty:TE):TE:=fun σ H Q=>td σ H fun x H1=>ty σ H1 fun y H2=>∃ a v,x = .ref a∧DGet H2 a y (some v)∧Q v H2
def sDPut (td ty tv:TE):TS:=fun D σ H=>tv σ H fun v H1=>td σ H1 fun x H2=>ty σ H2 fun y H3=>∃ a H4,x = .ref a∧DPut H3 a y v H4∧D.nx σ H4
section
variable {X:Cx} {o i e value:Expr} {pos pos' tpos:Pos} {td ty tv:TE}
theorem pe_dget (hu:X.A.units+1 < cLine) (ho:PE X o td) (hi:PE X i ty) (hs:NoSl i):PE X (.Subscript o i pos) (tDGet td ty):=by
 intro pins s σ H Q I h
 refine subD_of PySem.F.slot_dict_getitem.lookup hs (thn (ho pins s σ H _ I h) fun u s1 ⟨x,H1,I1,rx,q1⟩=>thn (hi pins s1 σ H1 _ I1 q1) fun iv s2 ⟨y,H2,I2,ry,a,v,ex,g,q2⟩=>?_)
 subst ex
 obtain rfl:u = Value.ref a:=rx
 exact ⟨dict_typeIs I2 g,d_getItem hu I2 g ry fun w' s3 I3 rw'=>⟨v,H2,I3,rw',q2⟩⟩
theorem ps_dput (hu:X.A.units+1 < cLine) (ho:PE X o td) (hi:PE X i ty) (hv:PE X value tv) (hs:swapsWith value (some (.Subscript o i pos')) pos.line X.env = pure false) :
  PS X (.Assign [.Subscript o i pos'] value pos) (sDPut td ty tv):=by
 intro pins s σ H D I h
 refine wpAny_Assign_Subscript (thn (hv pins s σ H _ I h) fun r s1 ⟨v,H1,I1,rv,q1⟩=>thn (ho pins s1 σ H1 _ I1 q1) fun u s2 ⟨x,H2,I2,rx,q2⟩=>thn (hi pins s2 σ H2 _ I2 q2) fun iv s3 ⟨y,H3,I3,ry,a,H4,ex,g,q3⟩=>?_) hs
 subst ex
 obtain rfl:u = Value.ref a:=rx
 exact d_setItem hu I3 g ry rv fun s4 I4=>⟨σ,H4,I4,q3⟩
end
theorem dk_empty {P:Program} {w:World} {H:Hp} (h:Heap) (hb:sysModules < h.objs.size):ObjOk P w H (h.push { cls:=.type "dict",data:=.dict #[] }) h.objs.size (.dK []) :=
 ⟨Nat.zero_le _,beq_eq_false_iff_ne.mpr (Ne.symm (Nat.ne_of_lt hb)),[],.nil,Heap.DictOf.new h⟩
theorem dt_empty {P:Program} {w:World} {H:Hp} (h:Heap) (hb:sysModules < h.objs.size):ObjOk P w H (h.push { cls:=.type "dict",data:=.dict #[] }) h.objs.size (.dT []) :=
 ⟨Nat.zero_le _,beq_eq_false_iff_ne.mpr (Ne.symm (Nat.ne_of_lt hb)),[],.nil,_,#[],0,Heap.get?_push_size _ rfl,⟨rfl,rfl,rfl⟩,rfl,rfl,List.nodup_nil⟩
def tDNewK:TE:=fun _ H Q=>∀ p,H p = none→Q (.ref p) (upd H p (.dK []))
def tDNewT:TE:=fun _ H Q=>∀ p,H p = none→Q (.ref p) (upd H p (.dT []))
section
variable {X:Cx} {pos:Pos}
theorem pe_dnewK:PE X (.Dict [] [] pos) tDNewK:=fun pins s σ H Q I h =>
 wpAny_Dict_empty ⟨.ref s.heap.objs.size,_,I.laid (a:=s.heap.objs.size) (o:=.dK []) (t':=s.toks) (fun _ _ q=>Heap.get?_push_of_some _ q) (Nat.le_refl _) (dk_empty s.heap I.big),rfl,h _ (I.hok.fresh (Nat.le_refl _))⟩
theorem pe_dnewT:PE X (.Dict [] [] pos) tDNewT:=fun pins s σ H Q I h =>
 wpAny_Dict_empty ⟨.ref s.heap.objs.size,_,I.laid (a:=s.heap.objs.size) (o:=.dT []) (t':=s.toks) (fun _ _ q=>Heap.get?_push_of_some _ q) (Nat.le_refl _) (dt_empty s.heap I.big),rfl,h _ (I.hok.fresh (Nat.le_refl _))⟩
end
structure M1 (X:Cx) (o:Expr) (m:Str) (apos:Pos) (e:Expr) (cpos:Pos):Prop where
 base:attributeBase o m X.env (eval o X.env) = eval o X.env
 few:((backTo cpos (starEach [e] X.env)).all (fun x=>!x.1) && (backToKw cpos (keywordEach [] X.env)).all (fun x=>x.1.isSome)
  && decide (([e]:List Expr).length+([]:List Keyword).length+(if ([]:List Keyword).isEmpty then 0 else 1) < 30)) = true
 line:(apos.endLine == cpos.line) = true
 trees:backTo cpos (starEach [e] X.env) = [(false,eval e X.env)]
structure M2 (X:Cx) (o:Expr) (m:Str) (apos:Pos) (e f:Expr) (cpos:Pos):Prop where
 base:attributeBase o m X.env (eval o X.env) = eval o X.env
 few:((backTo cpos (starEach [e,f] X.env)).all (fun x=>!x.1) && (backToKw cpos (keywordEach [] X.env)).all (fun x=>x.1.isSome)
  && decide (([e,f]:List Expr).length+([]:List Keyword).length+(if ([]:List Keyword).isEmpty then 0 else 1) < 30)) = true
 line:(apos.endLine == cpos.line) = true
 trees:backTo cpos (starEach [e,f] X.env) = [(false,eval e X.env),(false,eval f X.env)]
def IsD (H:Hp) (a:Addr):Prop:=(∃ kvs,Rd H a (.dK kvs))∨∃ kvs,Rd H a (.dT kvs)
theorem isD_at {X:Cx} {pins:List (Addr×Obj)} {σ:St} {H:Hp} {s:Shared} {a:Addr} (I:Inv X pins σ H s) (d:IsD H a) :
  s.TypeIs (.ref a) "dict"∧(∀ b,Value.ref a = .ref b→∃ ob,s.heap.get? b = some ob∧ob.dict = none)∧(a == sysModules) = false:=by
 rcases d with ⟨kvs,e⟩ | ⟨kvs,e⟩
 ·obtain ⟨_,hd,vs,_,dd⟩:=dk_rd I.hok e
  refine ⟨dd.typeIs,fun b q=>?_,hd⟩
  cases q
  obtain ⟨ob,_,_,h1,h2,_⟩:=dd
  exact ⟨ob,h1,h2.2.1⟩
 ·obtain ⟨_,hd,xs,_,dd⟩:=dt_rd I.hok e
  refine ⟨dd.typeIs,fun b q=>?_,hd⟩
  cases q
  obtain ⟨ob,_,_,h1,h2,_⟩:=dd
  exact ⟨ob,h1,h2.2.1⟩
section
variable {X:Cx} {pins:List (Addr×Obj)} {σ:St} {H:Hp} {s:Shared} {a:Addr} {y d:V} {u r:Value} {o:Option V} {A:Around} {E:Value→Shared→Prop}
theorem d_get2 {Q:Value→Shared→Prop} (hu:A.units+1 < cLine) (I:Inv X pins σ H s) (g:DGet H a y o) (ry:RelV y u) (rd:RelV d r) (h:∀ w' s',Inv X pins σ H s'→RelV (o.getD d) w'→Q w' s') :
  wpAny (model X.prog X.w) A (call (.builtin "dict.get") [.ref a,u,r]) Q E s:=by
 rcases g with ⟨kvs,k,e,ey,l⟩ | ⟨kvs,k,b,e,ey,eb,l⟩
 ·subst ey
  obtain ⟨z,hd,vs,rel,dd⟩:=dk_rd I.hok e
  refine call_meetsIn PySem.F.slot_dict_get dd.typeIs PySem.F.entry_dict_get (PySem.F.args_dict_get_3 _ _ _) (meets_dict_get_default (mixKind X.prog X.w) a (kV_is ry) hd r) ⟨_,dd.mapOf,h _ _ (I.tok _) ?_⟩
  rw [l]
  exact (rel.val k).getD rd
 ·subst ey
  cases (show u = Value.ref b from ry)
  obtain ⟨z,hd,xs,rel,dd⟩:=dt_rd I.hok e
  refine call_meetsIn PySem.F.slot_dict_get dd.typeIs PySem.F.entry_dict_get (PySem.F.args_dict_get_3 _ _ _) (meetsH_dict_get_default (tupleKind (mixKind X.prog X.w)) a b hd r) ⟨tupleKind_room_in1 hu,k,xs,key_of I.hok eb,dd,h _ _ (I.tok _) ?_⟩
  rw [l]
  exact (rel.val k).getD rd
end
def tDGet2 (td ty tx:TE):TE:=fun σ H Q=>td σ H fun x H1=>∃ a,x = .ref a∧IsD H1 a∧ty σ H1 fun y H2=>tx σ H2 fun z H3=>∃ o,DGet H3 a y o∧Q (o.getD z) H3
section
variable {X:Cx} {o e f:Expr} {apos cpos:Pos} {td ty tx:TE}
theorem pe_dget2 (hu:X.A.units+1 < cLine) (ho:PE X o td) (he:PE X e ty) (hf:PE X f tx) (m:M2 X o "get" apos e f cpos):PE X (.Call (.Attribute o "get" apos) [e,f] [] cpos) (tDGet2 td ty tx):=by
 intro pins s σ H Q I h
 refine wpAny_Call_method m.base m.few m.line PySem.F.plainAttrs_dict PySem.F.slot_dict_get PySem.F.type_dict_get (thn (ho pins s σ H _ I h) fun u s1 ⟨x,H1,I1,rx,a,ex,d,q1⟩=>?_)
 subst ex
 obtain rfl:u = Value.ref a:=rx
 obtain ⟨t1,t2,_⟩:=isD_at I1 d
 refine ⟨t1,t2,?_⟩
 rw [m.trees]
 refine Calls.callWith_builtin rfl (Calls.evalArgs_plain (Calls.spliced_cons (thn (he pins s1 σ H1 _ I1 q1) fun iv s2 ⟨y,H2,I2,ry,q2⟩ =>
  Calls.spliced_cons (thn (hf pins s2 σ H2 _ I2 q2) fun fv s3 ⟨z,H3,I3,rz,ov,g,q3⟩=>Calls.spliced_nil ?_))))
 exact d_get2 hu I3 g ry rz fun w' s4 I4 rw'=>⟨_,H3,I4,rw',q3⟩
end
section
variable {X:Cx} {pins:List (Addr×Obj)} {σ:St} {H:Hp} {s:Shared} {a:Addr} {kvs:List (Key×V)} {A:Around} {E:Value→Shared→Prop}
end
section
variable {X:Cx} {pins:List (Addr×Obj)} {σ:St} {H:Hp} {s:Shared} {a:Addr} {y:V} {u:Value} {A:Around} {E:Value→Shared→Prop}
end
end L2
namespace L2
open PySem PySem.Spec PyProof.Rows
section
variable {X:Cx}
end
section
variable {κ:Type} [DecidableEq κ]
end
end L2
set_option maxRecDepth 100000
namespace L2
open PySem PySem.Spec PyProof.Rows Geo
section
variable {prog:Program} {w:World} {A:Around} {E:Value→Shared→Prop} {s:Shared}
structure Feed (prog:Program) (w:World) (A:Around) (it S:Addr) (n:Nat) (J:Nat→List Value→Heap→Prop) (Fin:List Value→Heap→Prop):Prop where
 off:∀ i acc h h',J i acc h→(∀ b o,b ≠ S→h.get? b = some o→h'.get? b = some o)→J i acc h'
 item:∀ i acc (s:Shared) (Q:Option Value→Shared→Prop) (E:Value→Shared→Prop),i < n→J i acc s.heap→(∃ o,s.heap.get? S = some o) →
  (∀ v h' tk,J (i+1) (acc++[v]) h'→(∀ o,s.heap.get? S = some o→h'.get? S = some o)→Q (some v) { s with heap:=h',toks:=tk })→wpAny (model prog w) A (pyNext (.ref it)) Q E s
 done:∀ acc (s:Shared) (Q:Option Value→Shared→Prop) (E:Value→Shared→Prop),J n acc s.heap →
  (∀ h' tk,Fin acc h'→(∀ o,s.heap.get? S = some o→h'.get? S = some o)→Q none { s with heap:=h',toks:=tk })→wpAny (model prog w) A (pyNext (.ref it)) Q E s
theorem feed_loop {it S:Addr} {n:Nat} {J:Nat→List Value→Heap→Prop} {Fin:List Value→Heap→Prop} {R:Result→Shared→Prop} (W:Feed prog w A.in1 it S n J Fin) (hn:n≤sizeLine) (res:Value) :
  ∀ (k i:Nat) (s:Shared) (acc:List Value) (c:Nat),n - i = k→i≤n→J i acc s.heap→acc.length = i→s.heap.get? S = some { cls:=.type "list",dict:=none,data:=.seq acc.toArray c,slots:=#[] } →
  (∀ h' tk acc' c',Fin acc' h'→acc'.length = n→h'.get? S = some { cls:=.type "list",dict:=none,data:=.seq acc'.toArray c',slots:=#[] }→R (.ok (.ret res)) { s with heap:=h',toks:=tk }) →
  codeAny (model prog w) A (.builtin "list.extend.loop" ⟨[.ref S,.ref it,res],[]⟩) R s:=by
 intro k
 induction k with
 | zero =>
  intro i s acc c hk hi hJ hl hS hR
  obtain rfl:i = n:=by omega
  refine codeAny_builtin (F.entry_extend_loop) ?_; rw [Around.under_plainId (F.plain_extend_loop) _]
  show wpAny _ A.in1 (pyNext (.ref it) >>= _) _ _ s
  exact wpAny_bind (W.done acc s _ _ hJ fun h' tk fin kS=>wpAny_pure (hR h' tk acc c fin hl (kS _ hS)))
 | succ k ih =>
  intro i s acc c hk hi hJ hl hS hR
  have hlt:i < n:=by omega
  refine codeAny_builtin (F.entry_extend_loop) ?_; rw [Around.under_plainId (F.plain_extend_loop) _]
  show wpAny _ A.in1 (pyNext (.ref it) >>= _) _ _ s
  refine wpAny_bind (W.item i acc s _ _ hlt hJ ⟨_,hS⟩ fun v h' tk hJ' kS=>?_)
  have hS':=kS _ hS
  show wpAny _ A.in1 (updateSeq S (·.push v) >>= _) _ _ { s with heap:=h',toks:=tk }
  refine wpAny_bind (wpAny_updateSeq (s:={ s with heap:=h',toks:=tk }) hS' rfl (wpAny_pure ⟨plainId_quiet (F.plain_extend_loop) _,?_⟩) (by rw [List.size_toArray,hl]; omega) (by show (acc.toArray.push v).size≤sizeLine+1; rw [Array.size_push,List.size_toArray,hl]; omega))
  obtain ⟨c',q⟩:∃ c',(h'.update S (Obj.mapSeq (·.push v))).get? S = some { cls:=.type "list",dict:=none,data:=.seq (acc++[v]).toArray c',slots:=#[] }:=by
   have q:=PySem.IsL.update hS' (·.push v)
   rw [show acc.toArray.push v = (acc++[v]).toArray by simp] at q
   exact ⟨_,q⟩
  exact ih (i+1) _ (acc++[v]) c' (by omega) hlt (W.off _ _ _ _ hJ' fun b o hb e=>(Heap.get?_update_other _ _ (Ne.symm hb)).trans e) (by simp [hl]) q fun h2 tk2 acc2 c2 f2 l2 g2=>hR h2 tk2 acc2 c2 f2 l2 g2
end
end L2
set_option maxRecDepth 100000
namespace L2
open PySem PySem.Spec PyProof.Rows Geo
section
variable {prog:Program} {w:World} {A:Around} {E:Value→Shared→Prop} {s:Shared}
theorem call_list_feed {T:String} {r:Addr} {n:Nat} {J:Nat→List Value→Heap→Prop} {Fin:List Value→Heap→Prop} {oI:Obj} {Q:Value→Shared→Prop} (hoI:oI.isFreed = false) (hh:A.handled = none) (hT:s.TypeIs (.ref r) T)
  (nl:(Value.type T == Value.type "list") = false) (nt:(Value.type T == Value.type "tuple") = false) (hn:n≤sizeLine)
  (hint:∀ (A:Around) (E:Value→Shared→Prop) (s':Shared) (Q:Bool→Shared→Prop),s'.TypeIs (.ref r) T→Q false s'→wpAny (model prog w) A (Builtin.List.listLengthHint (.ref r)) Q E s')
  (iter:∀ (A:Around) (E:Value→Shared→Prop) (s':Shared) (Q:Value→Shared→Prop),(∀ b o,s.heap.get? b = some o→s'.heap.get? b = some o)→Q (.ref s'.heap.objs.size) { s' with heap:=s'.heap.push oI }→wpAny (model prog w) A (pyIter (.ref r)) Q E s')
  (W:∀ A':Around,A'.handled = none→Feed prog w A' (s.heap.objs.size+1) s.heap.objs.size n J Fin)
  (start:∀ h:Heap,(∀ b o,s.heap.get? b = some o→h.get? b = some o)→h.get? (s.heap.objs.size+1) = some oI→J 0 [] h)
  (hQ:∀ h' tk acc c,Fin acc h'→acc.length = n→h'.get? s.heap.objs.size = some { cls:=.type "list",dict:=none,data:=.seq acc.toArray c,slots:=#[] }→Q (.ref s.heap.objs.size) { s with heap:=h',toks:=tk }) :
  wpAny (model prog w) A (call (.type "list") [.ref r]) Q E s:=by
 obtain ⟨orr,er,_⟩:=id hT
 have lr:r < s.heap.objs.size:=Heap.lt_size er
 refine callType_codes (Q₁:=fun obj s1=>obj = Value.ref s.heap.objs.size∧s1 = { s with heap:=s.heap.push { cls:=.type "list",data:=.seq #[] } }) PySem.F.called_list (PySem.F.typeCall_list_1 _) (PySem.F.entry_list_init) (code_list_new _ ⟨rfl,rfl⟩) fun obj s1 h1=>?_
 obtain ⟨rfl,rfl⟩:=h1
 have hS:(s.heap.push { cls:=.type "list",data:=.seq #[] }).get? s.heap.objs.size = some { cls:=.type "list",data:=.seq #[] }:=Heap.get?_push_size _ rfl
 refine ⟨⟨_,hS,rfl⟩,PySem.F.args_list_init_2 _ _,?_⟩
 show wpAny _ _ (Builtin.List.listItems (.ref s.heap.objs.size) >>= fun old=>Builtin.List.listUpdate (.ref s.heap.objs.size) (fun _=>#[]) >>= fun _=>letGo old.toList.reverse >>= fun _=>Builtin.List.listExtendWith (.ref s.heap.objs.size) (.ref r) .none) _ _ _
 refine wpAny_bind ?_; unfold Builtin.List.listItems
 refine wpAny_bind (wpAny_seqItems hS rfl (wpAny_pure ?_))
 show wpAny _ _ (updateSeq s.heap.objs.size (fun _=>#[]) >>= fun _=>letGo (#[]:Array Value).toList.reverse >>= fun _=>Builtin.List.listExtendWith (.ref s.heap.objs.size) (.ref r) .none) _ _ _
 refine wpAny_bind (wpAny_updateSeq hS rfl ?_)
 obtain ⟨c2,g2⟩:∃ c2,((s.heap.push { cls:=.type "list",data:=.seq #[] }).update s.heap.objs.size (Obj.mapSeq (fun _=>(#[]:Array Value)))).get? s.heap.objs.size = some { cls:=.type "list",data:=.seq #[] c2 }:=⟨_,Heap.get?_update_self (Obj.mapSeq (fun _=>(#[]:Array Value))) hS rfl⟩
 have kp2:∀ b o,s.heap.get? b = some o→((s.heap.push { cls:=.type "list",data:=.seq #[] }).update s.heap.objs.size (Obj.mapSeq (fun _=>(#[]:Array Value)))).get? b = some o:=fun b o e=>(Heap.get?_update_other _ _ (Nat.ne_of_gt (Heap.lt_size e))).trans (Heap.get?_push_of_some _ e)
 have sz2:((s.heap.push { cls:=.type "list",data:=.seq #[] }).update s.heap.objs.size (Obj.mapSeq (fun _=>(#[]:Array Value)))).objs.size = s.heap.objs.size+1:=by rw [(Heap.SameBut.update _ _ _).1,Heap.size_push]
 refine wpAny_bind (wpAny_letGo ?_)
 dsimp only
 generalize ((s.heap.push { cls:=.type "list",data:=.seq #[] }).update s.heap.objs.size (Obj.mapSeq (fun _=>(#[]:Array Value)))) = h2 at g2 kp2 sz2 ⊢
 unfold Builtin.List.listExtendWith
 refine wpAny_bind (wpAny_typeOf (T:=T) (s:={ s with heap:=h2 }) ?_ ?_)
 ·obtain ⟨o,e,c⟩:=id hT
  exact ⟨o,kp2 _ _ e,c⟩
 have h1:Builtin.List.listSameRef (.ref s.heap.objs.size) (.ref r) = false:=by simp [Builtin.List.listSameRef,Nat.ne_of_gt lr]
 (simp only [h1,nl,nt,Bool.or_false,Bool.false_eq_true,if_false])
 refine wpAny_bind (iter _ _ { s with heap:=h2 } _ kp2 ?_)
 have kp3:∀ b o,s.heap.get? b = some o→(h2.push oI).get? b = some o:=fun b o e=>Heap.get?_push_of_some _ (kp2 b o e)
 have gI:(h2.push oI).get? (s.heap.objs.size+1) = some oI:=by rw [← sz2]; exact Heap.get?_push_size _ hoI
 have gS:=Heap.get?_push_of_some oI g2
 refine wpAny_bind (wpAny_holding (hint _ _ _ _ ?_ ?_))
 ·obtain ⟨o,e,c⟩:=id hT
  exact ⟨o,kp3 _ _ e,c⟩
 have loop:∀ (h:Heap) (c:Nat),(∀ b o,b ≠ s.heap.objs.size→(h2.push oI).get? b = some o→h.get? b = some o)→h.get? s.heap.objs.size = some { cls:=.type "list",dict:=none,data:=.seq #[] c,slots:=#[] } →
   codeAny (model prog w) A.in1 (.builtin "list.extend.loop" ⟨[.ref s.heap.objs.size,.ref h2.objs.size,.none],[]⟩) (wants (fun r s₂=>r = Value.none∧Q (Value.ref s.heap.objs.size) s₂) E) { s with heap:=h }:=by
  intro h c kh gh
  rw [sz2]
  refine feed_loop (A:=A.in1) (W A.in1.in1 hh) hn .none n 0 _ [] c (by simp) (Nat.zero_le _) (start h (fun b o e=>kh b o (Nat.ne_of_lt (Heap.lt_size e)) (kp3 b o e)) (kh _ _ (Nat.succ_ne_self _) gI)) rfl gh fun h' tk acc' c' fin la ga=>?_
  exact ⟨rfl,hQ h' tk acc' c' fin la ga⟩
 have oth:∀ b o,b ≠ s.heap.objs.size→(h2.push oI).get? b = some o→(((h2.push oI).update s.heap.objs.size (Obj.mapSeq (·.push Value.none))).update s.heap.objs.size (Obj.mapSeq (·.pop))).get? b = some o:=fun b o hb e=>(Heap.get?_update_other _ _ (Ne.symm hb)).trans ((Heap.get?_update_other _ _ (Ne.symm hb)).trans e)
 refine wpAny_ite_split (fun _=>?_) (fun _=>wpAny_pure ⟨plainId_quiet (PySem.F.plain_extend_loop) _,loop _ c2 (fun b o _ e=>e) gS⟩)
 refine wpAny_bind (wpAny_rule (wpAny_bind ?_))
 show wpAny _ _ (updateSeq s.heap.objs.size (·.push Value.none) >>= fun _=>updateSeq s.heap.objs.size (·.pop)) _ _ _
 refine wpAny_bind (wpAny_updateSeq gS rfl ?_)
 have g3:=Heap.get?_update_self (Obj.mapSeq (·.push Value.none)) gS rfl
 (refine wpAny_updateSeq (hz:=by seq_fits) g3 rfl ?_)
 have g4:=Heap.get?_update_self (Obj.mapSeq (·.pop)) g3 rfl
 exact wpAny_pure ⟨plainId_quiet (PySem.F.plain_extend_loop) _,loop _ _ oth g4⟩
end
end L2
set_option maxRecDepth 100000
namespace L2
open PySem PySem.Spec PyProof.Rows Geo
section
variable {prog:Program} {w:World} {A:Around} {E:Value→Shared→Prop} {s:Shared}
theorem exact_type {d:Addr} {od:Obj} (ho:s.heap.get? d = some od) (hx:od.ExactDict):s.TypeIs (.ref d) "dict":=⟨od,ho,hx.1⟩
theorem iter_keys {d:Addr} {od:Obj} {es:Array DictEntry} {ep:Nat} {Q:Value→Shared→Prop} (hd:(d == sysModules) = false) (ho:s.heap.get? d = some od) (hx:od.ExactDict) (hdat:od.data = .dict es ep)
  (hQ:Q (.ref s.heap.objs.size) { s with heap:=s.heap.push { cls:=.type "dict_keyiterator",data:=.fields #[.ref d,.int 0 0,.int es.size 0,.int ep 0] } }):wpAny (model prog w) A (pyIter (.ref d)) Q E s:=by
 have hT:=exact_type ho hx
 refine wpAny_pyIter_slot hT (F.slot_dict_iter) (wpAny_call_entry (F.slot_dict_iter) hT (F.entry_dict_iter) ?_ (F.args_dict_iter_1 _))
 unfold Builtin.«dict.__iter__»; refine wpAny_bind ?_
 unfold Builtin.Dict.dictSlotNone; refine wpAny_bind (wpAny_notOrdered_dict hT ?_)
 show wpAny _ _ (pure (Value.ref d)) _ _ s; refine wpAny_pure ?_
 show wpAny _ _ (Builtin.Dict.showsAll d >>= _) _ _ s; unfold Builtin.Dict.showsAll
 rw [if_neg (by rw [hd]; exact Bool.false_ne_true)]; refine wpAny_bind (wpAny_pure ?_)
 refine wpAny_bind (wpAny_dictEntries ho hdat (wpAny_bind (wpAny_dictEpoch ho hdat ?_)))
 refine wpAny_bind (wpAny_newObj_type (wpAny_pure ⟨_,rfl,"dict_keyiterator",_,⟨_,Heap.get?_push_size _ rfl,rfl⟩,(F.slot_dict_keyiterator_next).lookup,?_⟩))
 simpa [rawInt] using hQ
theorem next_key {it d:Addr} {i ep:Nat} {od:Obj} {es:Array DictEntry} {Q:Option Value→Shared→Prop} (hit:s.heap.IsKeyIter it d i es.size ep) (hod:s.heap.get? d = some od) (hdd:od.data = .dict es ep) (hlt:i < es.size)
  (hQ:∀ h',h'.IsKeyIter it d (i+1) es.size ep→Heap.SameBut it s.heap h'→Q (some es[i].key) { s with heap:=h' }):wpAny (model prog w) A (pyNext (.ref it)) Q E s:=by
 obtain ⟨o,ho,hc,hd⟩:=id hit
 unfold pyNext
 refine wpAny_bind (wpAny_attempt (wpAny_callSpecial?_slot (name:=Str.ofString "__next__") hit.typeIs (F.slot_dict_keyiterator_next) (wpAny_call_entry (F.slot_dict_keyiterator_next) hit.typeIs (F.entry_dict_keyiterator_next) ?_ (F.args_dict_keyiterator_next_1 _))))
 refine wpAny_bind (wpAny_pure (wpAny_bind (wpAny_bind ?_)))
 (first | refine wpAny_bind (wpAny_typeNameOfWhole_keyiter hit.typeIs (wpAny_pure ?_)) | refine wpAny_bind (wpAny_typeNameOf_keyiter hit.typeIs (wpAny_pure ?_)))
 refine wpAny_bind (wpAny_fieldsOf ho hd ?_)
 simp only [show Builtin.Dict_items.ownsTuple "dict_keyiterator" = false by decide,Bool.false_eq_true,if_false]
 show wpAny _ _ (if (Value.ref d == Value.none) = true then _ else _) _ _ s; rw [if_neg (show ¬ ((Value.ref d == Value.none) = true) from Bool.false_ne_true)]
 refine wpAny_bind (wpAny_pure (wpAny_bind (wpAny_dictEntries hod hdd ?_)))
 rw [if_neg (by simp)]; refine wpAny_bind (wpAny_pure (wpAny_bind (wpAny_dictEpoch hod hdd ?_)))
 rw [if_neg (by simp)]; refine wpAny_pure ?_
 simp only [show ¬ ((i:Int) < 0) from by omega,if_false,Int.toNat_natCast,Array.getElem?_eq_getElem hlt]; refine wpAny_bind ?_
 (first | refine wpAny_bind (wpAny_typeNameOfWhole_keyiter hit.typeIs (wpAny_pure ?_)) | refine wpAny_bind (wpAny_typeNameOf_keyiter hit.typeIs (wpAny_pure ?_)))
 (refine wpAny_bind (wpAny_isOneOf_keyiter hit.typeIs ?_))
 show wpAny _ _ (setField (.ref it) 1 (rawInt ((i:Int)+1)) >>= _) _ _ s; refine wpAny_bind (wpAny_setField ho hd (by simp) ?_)
 have hit':(s.heap.update it (Obj.mapFields (·.setIfInBounds 1 (rawInt ((i:Int)+1))))).IsKeyIter it d (i+1) es.size ep:=⟨_,Heap.get?_update_self _ ho (Obj.isFreed_of_fields (Obj.data_mapFields hd _)),(Obj.cls_mapFields ..).trans hc,by rw [Obj.data_mapFields hd]; simp [rawInt]⟩
 refine wpAny_bind (wpAny_holding (wpAny_bind (wpAny_isOneOf_keyiter (s:={ s with heap:=s.heap.update it (Obj.mapFields (·.setIfInBounds 1 (rawInt ((i:Int)+1)))) }) hit'.typeIs ?_)))
 show wpAny _ _ (pure es[i].key) _ _ _; exact wpAny_pure (wpAny_pure ⟨_,rfl,wpAny_pure (hQ _ hit' (Heap.SameBut.update ..))⟩)
end
end L2
set_option maxRecDepth 100000
namespace L2
open PySem PySem.Spec PyProof.Rows Geo PySem.W
section
variable {prog:Program} {w:World} {A:Around} {E:Value→Shared→Prop} {s:Shared}
theorem end_key {it d:Addr} {i ep:Nat} {od:Obj} {es:Array DictEntry} {Q:Option Value→Shared→Prop} (hh:A.handled = none) (hit:s.heap.IsKeyIter it d i es.size ep) (hod:s.heap.get? d = some od) (hdd:od.data = .dict es ep) (hge:es.size≤i)
  (hQ:∀ h',Heap.ExtBut it s.heap h'→Q none { s with heap:=h' }):wpAny (model prog w) A (pyNext (.ref it)) Q E s:=by
 obtain ⟨o,ho,hc,hd⟩:=id hit
 unfold pyNext
 refine wpAny_bind (wpAny_attempt (wpAny_callSpecial?_slot (name:=Str.ofString "__next__") hit.typeIs (F.slot_dict_keyiterator_next) (wpAny_call_entry (F.slot_dict_keyiterator_next) hit.typeIs (F.entry_dict_keyiterator_next) ?_ (F.args_dict_keyiterator_next_1 _))))
 refine wpAny_bind (wpAny_pure (wpAny_bind (wpAny_bind ?_)))
 (first | refine wpAny_bind (wpAny_typeNameOfWhole_keyiter hit.typeIs (wpAny_pure ?_)) | refine wpAny_bind (wpAny_typeNameOf_keyiter hit.typeIs (wpAny_pure ?_)))
 refine wpAny_bind (wpAny_fieldsOf ho hd ?_); simp only [show Builtin.Dict_items.ownsTuple "dict_keyiterator" = false by decide,Bool.false_eq_true,if_false]
 show wpAny _ _ (if (Value.ref d == Value.none) = true then _ else _) _ _ s; rw [if_neg (show ¬ ((Value.ref d == Value.none) = true) from Bool.false_ne_true)]
 refine wpAny_bind (wpAny_pure (wpAny_bind (wpAny_dictEntries hod hdd ?_))); rw [if_neg (by simp)]
 refine wpAny_bind (wpAny_pure (wpAny_bind (wpAny_dictEpoch hod hdd ?_))); rw [if_neg (by simp)]; refine wpAny_pure ?_
 simp only [show ¬ ((i:Int) < 0) from by omega,if_false,Int.toNat_natCast,Array.getElem?_eq_none hge]; refine wpAny_bind ?_
 (first | refine wpAny_bind (wpAny_typeNameOfWhole_keyiter hit.typeIs (wpAny_pure ?_)) | refine wpAny_bind (wpAny_typeNameOf_keyiter hit.typeIs (wpAny_pure ?_)))
 show wpAny _ _ (setField (.ref it) 0 .none >>= _) _ _ s; refine wpAny_bind (wpAny_setField ho hd (by simp) ?_)
 show wpAny _ _ (newExc (.type "StopIteration") [] >>= _) _ _ _; refine wpAny_bind ?_; simp only [newExc,newTuple]
 refine wpAny_bind (wpAny_newObj_type ?_ (by size_fits)); refine wpAny_bind (m:=firstArgMember _ _) (wpAny_of_eq (a:=Value.none) (by first | rfl | (simp only [firstArgMember]; rfl)) ?_)
 refine wpAny_newObj_type ?_ (by size_fits); simp only [raiseNew]; refine wpAny_bind (wpAny_handled ?_)
 rw [show A.in1.handled = none from hh]; refine wpAny_bind (wpAny_pure (wpAny_throw ?_))
 refine wpAny_bind (wpAny_isInstance (T:="StopIteration") (b:=true) ⟨_,Heap.get?_push_size _ rfl,rfl⟩ isSubtype_stop (wpAny_pure (hQ _ (((Heap.SameBut.update ..).extBut.push _).push _))))
theorem feed_keys {it S d:Addr} {ep:Nat} {od:Obj} {es:Array DictEntry} {h0:Heap} (hh:A.handled = none) (hS:h0.objs.size≤S) (hi:h0.objs.size≤it) (hne:it ≠ S) (hod:h0.get? d = some od) (hdd:od.data = .dict es ep) :
  Feed prog w A it S es.size (fun i acc h=>(∀ b o,h0.get? b = some o→h.get? b = some o)∧h.IsKeyIter it d i es.size ep∧acc = (es.toList.take i).map (·.key)) (fun acc h=>(∀ b o,h0.get? b = some o→h.get? b = some o)∧acc = es.toList.map (·.key)) where
 off:=fun i acc h h' ⟨k,hit,e⟩ kh=>⟨fun b o eb=>kh b o (Nat.ne_of_lt (Nat.lt_of_lt_of_le (Heap.lt_size eb) hS)) (k b o eb),hit.at fun o eo=>kh it o hne eo,e⟩
 item:=fun i acc s Q E hlt ⟨k,hit,e⟩ _ hQ=>by
  refine next_key hit (k d od hod) hdd hlt fun h' hit' sb=>?_
  refine hQ _ h' s.toks ⟨fun b o eb=>(sb.2 b (Nat.ne_of_lt (Nat.lt_of_lt_of_le (Heap.lt_size eb) hi))).trans (k b o eb),hit',?_⟩ fun o eo=>(sb.2 S (Ne.symm hne)).trans eo
  rw [e,List.take_add_one,show es.toList[i]? = some es[i] by simp [hlt]]; simp
 done:=fun acc s Q E ⟨k,hit,e⟩ hQ=>by
  refine end_key hh hit (k d od hod) hdd (Nat.le_refl _) fun h' eb=>?_
  refine hQ h' s.toks ⟨fun b o e'=>eb b o (Nat.ne_of_lt (Nat.lt_of_lt_of_le (Heap.lt_size e') hi)) (k b o e'),?_⟩ fun o eo=>eb S o (Ne.symm hne) eo
  rw [e,List.take_of_length_le (by simp)]
end
theorem call_list_dT {X:Cx} (hh:X.A.handled = none):CallR X (.type "list") (fun xs H Q=>∃ a kvs,xs = [.ref a]∧H a = some (.dT kvs) ∧
  ∀ l zs,H l = none→Paired (fun (z:V) (p:List Key×V)=>∃ b,z = .ref b∧H b = some (.tup (p.1.map kV))) zs kvs→Q (.ref l) (upd H l (.lst zs))):=by
 intro pins s σ H xs us Q I rv h
 obtain ⟨a,kvs,rfl,ha,k⟩:=h
 obtain ⟨u,rfl,ru⟩:=vals1 rv
 cases ru
 obtain ⟨z,y,vs,r,o,es,ep,h1,h2,h3,h4,h5⟩:=(show ObjOk X.prog X.w H s.heap a (.dT kvs) from I.hok a _ ha)
 have hes:es.size = kvs.length:=by
  have e1:=r.length
  have e2:es.toList.length = vs.length:=by rw [h4,List.length_map]
  rw [Array.length_toList] at e2; omega
 refine call_list_feed (T:="dict") (n:=es.size) (oI:={ cls:=.type "dict_keyiterator",data:=.fields #[.ref a,.int 0 0,.int es.size 0,.int ep 0] }) rfl hh (exact_type h1 h2) (by decide) (by decide) (by omega)
  (fun A E s' Q hT hq=>kdl_hint_dict hT hq) (fun A E s' Q kp hq=>iter_keys y (kp a o h1) h2 h3 hq) (fun A' hA=>feed_keys (h0:=s.heap) hA (Nat.le_refl _) (Nat.le_succ _) (Nat.succ_ne_self _) h1 h3)
  (fun h kp g=>⟨kp,⟨_,g,rfl,rfl⟩,rfl⟩) fun h' tk acc c fin la ga=>?_
 obtain ⟨kp,rfl⟩:=fin
 have nl:H s.heap.objs.size = none:=I.hok.fresh (Nat.le_refl _)
 have hv:Vals (vs.map fun q=>V.ref q.2.1) (es.toList.map (·.key)):=by
  rw [h4,List.map_map]
  refine Paired.of_map (by simp) fun i x v e1 e2=>?_
  rw [List.getElem?_map] at e1 e2
  cases q:vs[i]? with
  | none=>rw [q] at e1; cases e1
  | some p=>rw [q] at e1 e2; simp at e1 e2; subst e1; subst e2; rfl
 have hp:Paired (fun (z:V) (p:List Key×V)=>∃ b,z = .ref b∧H b = some (.tup (p.1.map kV))) (vs.map fun q=>V.ref q.2.1) kvs:=by
  have go:∀ {l:List (List Key×V)} {m:List (List Key×Addr×Value)},KT H l m→Paired (fun (z:V) (p:List Key×V)=>∃ b,z = .ref b∧H b = some (.tup (p.1.map kV))) (m.map fun q=>V.ref q.2.1) l:=by
   intro l m q
   induction q with
   | nil=>exact .nil
   | cons hq t ih=>exact .cons ⟨_,rfl,hq.2.1⟩ ih
  exact go r
 refine ⟨.ref s.heap.objs.size,_,I.laid (t':=tk) (o:=.lst (vs.map fun q=>V.ref q.2.1)) kp (Nat.le_refl _) ⟨by rw [hp.length]; exact z,_,c,hv,ga⟩,rfl,k _ _ nl hp⟩
end L2
set_option maxRecDepth 100000
namespace L2
open PySem PySem.Spec PyProof.Rows Geo PySem.W
section
variable {prog:Program} {w:World} {A:Around} {E:Value→Shared→Prop} {s:Shared}
theorem hint_items {r:Addr} {Q:Bool→Shared→Prop} (hT:s.TypeIs (.ref r) "dict_items") (h:Q false s):wpAny (model prog w) A (Builtin.List.listLengthHint (.ref r)) Q E s:=by
 unfold Builtin.List.listLengthHint; refine wpAny_bind (wpAny_specialOf hT (PySem.F.slot_dict_items_len).lookup ?_)
 generalize hid:("dict_items.__len__":String) = id0; wp_delta
 rw [show splitId id0 = some ("dict_items","__len__") from by subst hid; decide +kernel]; subst hid
 refine wpAny_bind (wpAny_isInstance (T:="dict_items") (b:=true) hT (by (rw [isSubtype_type]); kernel_rfl) ?_)
 refine wpAny_ite_split (fun hab=>absurd hab (by decide)) (fun _=>wpAny_ite_split (fun _=>wpAny_bind (wpAny_typeOf hT (wpAny_pure h))) (fun hab=>absurd (by decide +kernel) hab))
abbrev ItSt (h:Heap) (it d:Addr) (i n ep:Nat) (f0:Value) (fl:Bool) (ok ov:Value):Prop :=
 h.get? it = some { cls:=.type "dict_itemiterator",dict:=none,data:=.fields #[f0,.bool fl,.ref d,.int i 0,.int n 0,.int ep 0,ok,ov],slots:=#[] }
theorem alive {a:Addr} {Q:Option Obj→Shared→Prop} (h:Q (s.heap.get? a) s):wpAny (model prog w) A (loadIfAlive a) Q E s:=fun Γ p _=>by
 unfold loadIfAlive; rw [Sem.wp_loadIfAlive]; exact (Sem.wp_pure ..).mpr h
theorem next_out {it d T:Addr} {i ep:Nat} {od oT:Obj} {es:Array DictEntry} {fl:Bool} {ok ov:Value} {Q:Option Value→Shared→Prop} (hit:ItSt s.heap it d i es.size ep (rawInt T) fl ok ov) (hod:s.heap.get? d = some od) (hdd:od.data = .dict es ep) (hlt:i < es.size) (hT':s.heap.get? T = some oT) (nT:T ≠ it)
  (hQ:∀ h',ItSt h' it d (i+1) es.size ep (rawInt T) true ok ov→h'.get? s.heap.objs.size = some { cls:=.type "tuple",data:=.seq #[es[i].key,es[i].val] }→(∀ b o,b ≠ it→s.heap.get? b = some o→h'.get? b = some o)→Q (some (.ref s.heap.objs.size)) { s with heap:=h' }) :
  wpAny (model prog w) A (pyNext (.ref it)) Q E s:=by
 have hT:s.TypeIs (.ref it) "dict_itemiterator":=⟨_,hit,rfl⟩
 have hil:it < s.heap.objs.size:=Heap.lt_size hit
 unfold pyNext
 refine wpAny_bind (wpAny_attempt (wpAny_callSpecial?_slot (name:=Str.ofString "__next__") hT (F.slot_dict_itemiterator_next) (wpAny_call_entry (F.slot_dict_itemiterator_next) hT (F.entry_dict_itemiterator_next) ?_ (F.args_dict_itemiterator_next_1 _))))
 refine wpAny_bind (wpAny_pure (wpAny_bind (wpAny_bind ?_)))
 (first | refine wpAny_bind (wpAny_typeNameOfWhole_itemiter hT (wpAny_pure ?_)) | refine wpAny_bind (wpAny_typeNameOf_itemiter hT (wpAny_pure ?_)))
 refine wpAny_bind (wpAny_fieldsOf hit rfl ?_); simp only [show Builtin.Dict_items.ownsTuple "dict_itemiterator" = true by decide,if_true]
 show wpAny _ _ (if (Value.ref d == Value.none) = true then _ else _) _ _ s; rw [if_neg (show ¬ ((Value.ref d == Value.none) = true) from Bool.false_ne_true)]
 refine wpAny_bind (wpAny_pure (wpAny_bind (wpAny_dictEntries hod hdd ?_))); rw [if_neg (by simp)]
 refine wpAny_bind (wpAny_pure (wpAny_bind (wpAny_dictEpoch hod hdd ?_))); rw [if_neg (by simp)]; refine wpAny_pure ?_
 simp only [show ¬ ((i:Int) < 0) from by omega,if_false,Int.toNat_natCast,Array.getElem?_eq_getElem hlt]; refine wpAny_bind ?_
 (first | refine wpAny_bind (wpAny_typeNameOfWhole_itemiter hT (wpAny_pure ?_)) | refine wpAny_bind (wpAny_typeNameOf_itemiter hT (wpAny_pure ?_)))
 (refine wpAny_bind (wpAny_isOneOf_itemiter hT ?_))
 show wpAny _ _ (setField (.ref it) 3 (rawInt ((i:Int)+1)) >>= _) _ _ s
 refine wpAny_bind (wpAny_setField_rec hit (by simp) fun h1 he1 hs1=>?_)
 replace he1:ItSt h1 it d (i+1) es.size ep (rawInt T) fl ok ov:=by
  have e:((i+1:Nat):Int) = (i:Int)+1:=by omega
  unfold ItSt; rw [e]; simpa [rawInt] using he1
 have hT1:Shared.TypeIs { s with heap:=h1 } (.ref it) "dict_itemiterator":=⟨_,he1,rfl⟩
 refine wpAny_bind (wpAny_holding (wpAny_bind (wpAny_isOneOf_itemiter hT1 (wpAny_bind (wpAny_isOneOf_itemiter hT1 ?_)))))
 show wpAny _ _ (Builtin.Dict_items.pairFromOwner (.ref it) 6 es[i].key es[i].val) _ _ { s with heap:=h1 }; unfold Builtin.Dict_items.pairFromOwner
 refine wpAny_bind (wpAny_newTuple ?_)
 have z1:h1.objs.size = s.heap.objs.size:=hs1.1
 have he2:ItSt (h1.push { cls:=.type "tuple",data:=.seq #[es[i].key,es[i].val] }) it d (i+1) es.size ep (rawInt T) fl ok ov:=Heap.get?_push_of_some _ he1
 have k2:∀ b o,b ≠ it→s.heap.get? b = some o→(h1.push { cls:=.type "tuple",data:=.seq #[es[i].key,es[i].val] }).get? b = some o:=fun b o hb e=>Heap.get?_push_of_some _ (hs1.extBut b o hb e)
 have t2:(h1.push { cls:=.type "tuple",data:=.seq #[es[i].key,es[i].val] }).get? s.heap.objs.size = some { cls:=.type "tuple",data:=.seq #[es[i].key,es[i].val] }:=by rw [← z1]; exact Heap.get?_push_size _ rfl
 show wpAny _ _ (Builtin.Dict_items.ownedTupleIsFree (.ref it) >>= _) _ _ { s with heap:=h1.push { cls:=.type "tuple",data:=.seq #[es[i].key,es[i].val] } }
 rw [z1]
 generalize h1.push { cls:=.type "tuple",data:=.seq #[es[i].key,es[i].val] } = h2 at he2 k2 t2 ⊢
 refine wpAny_bind ?_; unfold Builtin.Dict_items.ownedTupleIsFree
 refine wpAny_bind (wpAny_field he2 rfl (x:=rawInt T) rfl ?_)
 show wpAny _ _ (loadIfAlive (T:Int).toNat >>= _) _ _ _
 refine wpAny_bind (alive ?_)
 rw [Int.toNat_natCast]
 have hT2:({ s with heap:=h2 }:Shared).heap.get? T = some oT:=k2 T oT nT hT'
 rw [hT2]
 show wpAny _ _ (field (.ref it) 1 >>= _) _ _ _
 refine wpAny_bind (wpAny_field he2 rfl (x:=.bool fl) rfl ?_)
 dsimp only
 have tail:∀ h3:Heap,ItSt h3 it d (i+1) es.size ep (rawInt T) true ok ov→h3.get? s.heap.objs.size = some { cls:=.type "tuple",data:=.seq #[es[i].key,es[i].val] }→(∀ b o,b ≠ it→s.heap.get? b = some o→h3.get? b = some o)→Q (some (.ref s.heap.objs.size)) { s with heap:=h3 }:=fun h3 a1 a2 a3=>hQ h3 a1 a2 a3
 cases fl with
 | true =>
  rw [if_neg (by decide)]
  refine wpAny_pure ?_
  rw [if_neg Bool.false_ne_true]
  exact wpAny_pure (wpAny_pure ⟨_,rfl,wpAny_pure (tail h2 he2 t2 k2)⟩)
 | false =>
  rw [if_pos (by decide)]
  refine wpAny_bind (wpAny_setField_rec he2 (by simp) fun h3 he3 hs3=>wpAny_pure ?_)
  rw [if_neg Bool.false_ne_true]
  exact wpAny_pure (wpAny_pure ⟨_,rfl,wpAny_pure (tail h3 he3 (hs3.extBut _ _ (Nat.ne_of_gt hil) t2) fun b o hb e=>hs3.extBut b o hb (k2 b o hb e))⟩)
theorem end_item {it d:Addr} {i ep:Nat} {od:Obj} {es:Array DictEntry} {f0:Value} {fl:Bool} {ok ov:Value} {Q:Option Value→Shared→Prop} (hh:A.handled = none) (hit:ItSt s.heap it d i es.size ep f0 fl ok ov) (hod:s.heap.get? d = some od) (hdd:od.data = .dict es ep) (hge:es.size≤i)
  (hQ:∀ h',Heap.ExtBut it s.heap h'→Q none { s with heap:=h' }):wpAny (model prog w) A (pyNext (.ref it)) Q E s:=by
 have hT:s.TypeIs (.ref it) "dict_itemiterator":=⟨_,hit,rfl⟩
 unfold pyNext
 refine wpAny_bind (wpAny_attempt (wpAny_callSpecial?_slot (name:=Str.ofString "__next__") hT (F.slot_dict_itemiterator_next) (wpAny_call_entry (F.slot_dict_itemiterator_next) hT (F.entry_dict_itemiterator_next) ?_ (F.args_dict_itemiterator_next_1 _))))
 refine wpAny_bind (wpAny_pure (wpAny_bind (wpAny_bind ?_)))
 (first | refine wpAny_bind (wpAny_typeNameOfWhole_itemiter hT (wpAny_pure ?_)) | refine wpAny_bind (wpAny_typeNameOf_itemiter hT (wpAny_pure ?_)))
 refine wpAny_bind (wpAny_fieldsOf hit rfl ?_); simp only [show Builtin.Dict_items.ownsTuple "dict_itemiterator" = true by decide,if_true]
 show wpAny _ _ (if (Value.ref d == Value.none) = true then _ else _) _ _ s; rw [if_neg (show ¬ ((Value.ref d == Value.none) = true) from Bool.false_ne_true)]
 refine wpAny_bind (wpAny_pure (wpAny_bind (wpAny_dictEntries hod hdd ?_))); rw [if_neg (by simp)]
 refine wpAny_bind (wpAny_pure (wpAny_bind (wpAny_dictEpoch hod hdd ?_))); rw [if_neg (by simp)]; refine wpAny_pure ?_
 simp only [show ¬ ((i:Int) < 0) from by omega,if_false,Int.toNat_natCast,Array.getElem?_eq_none hge]; refine wpAny_bind ?_
 (first | refine wpAny_bind (wpAny_typeNameOfWhole_itemiter hT (wpAny_pure ?_)) | refine wpAny_bind (wpAny_typeNameOf_itemiter hT (wpAny_pure ?_)))
 show wpAny _ _ (setField (.ref it) 2 .none >>= _) _ _ s; refine wpAny_bind (wpAny_setField hit rfl (by simp) ?_)
 show wpAny _ _ (newExc (.type "StopIteration") [] >>= _) _ _ _; refine wpAny_bind ?_; simp only [newExc,newTuple]
 refine wpAny_bind (wpAny_newObj_type ?_ (by size_fits)); refine wpAny_bind (m:=firstArgMember _ _) (wpAny_of_eq (a:=Value.none) (by first | rfl | (simp only [firstArgMember]; rfl)) ?_)
 refine wpAny_newObj_type ?_ (by size_fits); simp only [raiseNew]; refine wpAny_bind (wpAny_handled ?_)
 rw [show A.in1.handled = none from hh]; refine wpAny_bind (wpAny_pure (wpAny_throw ?_))
 refine wpAny_bind (wpAny_isInstance (T:="StopIteration") (b:=true) ⟨_,Heap.get?_push_size _ rfl,rfl⟩ isSubtype_stop (wpAny_pure (hQ _ (((Heap.SameBut.update ..).extBut.push _).push _))))
def TupE {K:Type} [DecidableEq K] (knd:KeyKind prog w K) (h0 h:Heap) (S it:Addr) (v:Value) (p:K×Value):Prop:=∃ T key,v = .ref T∧T ≠ S∧T ≠ it∧h0.objs.size≤T∧knd.is p.1 key = true∧h.get? T = some { cls:=.type "tuple",data:=.seq #[key,p.2] }
theorem feed_items {K:Type} [DecidableEq K] {knd:KeyKind prog w K} {it S d:Addr} {ep:Nat} {od:Obj} {es:Array DictEntry} {kvs:List (K×Value)} {h0:Heap} (hh:A.handled = none) (hS:h0.objs.size≤S) (hi:h0.objs.size≤it) (hne:it ≠ S) (hod:h0.get? d = some od) (hdd:od.data = .dict es ep)
  (hx:od.ExactDict) (hk:KeysOf knd es) (hp:Pairs knd es.toList kvs) (hn:(kvs.map (·.1)).Nodup) :
  Feed prog w A it S es.size (fun i acc h=>(∀ b o,h0.get? b = some o→h.get? b = some o)∧(∃ f0 fl ok ov,ItSt h it d i es.size ep f0 fl ok ov∧((i = 0∧f0 = .none∧fl = false)∨∃ (T:Addr) (o:Obj),f0 = rawInt T∧h.get? T = some o∧T ≠ S∧T ≠ it))∧Paired (TupE knd h0 h S it) acc (kvs.take i)∧acc.Nodup)
   (fun acc h=>(∀ b o,h0.get? b = some o→h.get? b = some o)∧Paired (TupE knd h0 h S it) acc kvs∧acc.Nodup) where
 off:=fun i acc h h' ⟨k,⟨f0,fl,ok,ov,hit,hf⟩,e,nd⟩ kh=>⟨fun b o eb=>kh b o (Nat.ne_of_lt (Nat.lt_of_lt_of_le (Heap.lt_size eb) hS)) (k b o eb),⟨f0,fl,ok,ov,kh it _ hne hit,hf.imp id fun ⟨T,o,e1,e2,e3,e4⟩=>⟨T,o,e1,kh T o e3 e2,e3,e4⟩⟩,Paired.mapP e fun _ _ ⟨T,q,t1,t2,t3,t4,t5,t6⟩=>⟨T,q,t1,t2,t3,t4,t5,kh T _ t2 t6⟩,nd⟩
 item:=fun i acc s Q E hlt ⟨k,⟨f0,fl,ok,ov,hit,hf⟩,e,nd⟩ ⟨oS,hSo⟩ hQ=>by
  have nd':(acc++[Value.ref s.heap.objs.size]).Nodup:=by
   rw [List.nodup_append]
   refine ⟨nd,by simp,fun u hu v hv=>?_⟩
   rw [List.mem_singleton] at hv; subst hv
   intro eu; subst eu
   obtain ⟨j,hj⟩:=List.mem_iff_getElem?.mp hu
   obtain ⟨p,_,T,q,t1,_,_,_,_,t6⟩:=Pair.get e hj
   injection t1 with t1; subst t1
   exact absurd (Heap.lt_size t6) (Nat.lt_irrefl _)
  have lS:S < s.heap.objs.size:=Heap.lt_size hSo
  have li:it < s.heap.objs.size:=Heap.lt_size hit
  have l0:h0.objs.size≤s.heap.objs.size:=Nat.le_trans hi (Nat.le_of_lt li)
  have hl:es.size = kvs.length:=by rw [← hp.length]; simp
  have hlt':i < kvs.length:=by omega
  obtain ⟨⟨kk,vv⟩,hx'⟩:∃ p,kvs[i]? = some p:=⟨kvs[i],by simp [hlt']⟩
  have fin:∀ h' key,(∀ b o,b ≠ it→s.heap.get? b = some o→h'.get? b = some o)→knd.is kk key = true→h'.get? s.heap.objs.size = some { cls:=.type "tuple",data:=.seq #[key,vv] }→Paired (TupE knd h0 h' S it) (acc++[.ref s.heap.objs.size]) (kvs.take (i+1)):=fun h' key kp hy g=>by
   rw [List.take_add_one,hx']
   exact Pair.append (Paired.mapP e fun _ _ ⟨T,q,t1,t2,t3,t4,t5,t6⟩=>⟨T,q,t1,t2,t3,t4,t5,kp T _ t3 t6⟩) (.cons ⟨_,key,rfl,Nat.ne_of_gt lS,Nat.ne_of_gt li,l0,hy,g⟩ .nil)
  obtain ⟨hkey,hval⟩:=hp.get? (i:=i) (e:=es[i]) (by simp [hlt]) hx'
  rcases hf with ⟨rfl,rfl,rfl⟩ | ⟨T,o,rfl,e2,e3,e4⟩
  ·have hit0:IsItemIter s.heap it d 0 kvs.length ep ok ov:=by rw [← hl]; exact hit
   refine wpAny_pyNext_items_item hit0 (⟨od,es,k d od hod,hx,hdd,hk,hp,hn⟩:s.heap.DictAt knd d kvs ep) hx' fun key h' a0 a1 a2 a3 a4=>?_
   refine hQ _ h' s.toks ⟨fun b o eb=>a4 b o (Nat.ne_of_lt (Nat.lt_of_lt_of_le (Heap.lt_size eb) hi)) (k b o eb),⟨_,_,_,_,by rw [hl]; exact a1,.inr ⟨_,_,rfl,a2,Nat.ne_of_gt lS,Nat.ne_of_gt li⟩⟩,fin h' key a4 a0 a2,nd'⟩ fun o eo=>a4 S o (Ne.symm hne) eo
  ·refine next_out hit (k d od hod) hdd hlt e2 e4 fun h' a1 a2 a3=>?_
   exact hQ _ h' s.toks ⟨fun b o eb=>a3 b o (Nat.ne_of_lt (Nat.lt_of_lt_of_le (Heap.lt_size eb) hi)) (k b o eb),⟨_,_,_,_,a1,.inr ⟨T,o,rfl,a3 T o e4 e2,e3,e4⟩⟩,fin h' _ a3 hkey (by rw [← hval]; exact a2),nd'⟩ fun o eo=>a3 S o (Ne.symm hne) eo
 done:=fun acc s Q E ⟨k,⟨f0,fl,ok,ov,hit,hf⟩,e,nd⟩ hQ=>by
  have hl:es.size = kvs.length:=by rw [← hp.length]; simp
  refine end_item hh hit (k d od hod) hdd (Nat.le_refl _) fun h' eb=>?_
  refine hQ h' s.toks ⟨fun b o e'=>eb b o (Nat.ne_of_lt (Nat.lt_of_lt_of_le (Heap.lt_size e') hi)) (k b o e'),?_,nd⟩ fun o eo=>eb S o (Ne.symm hne) eo
  rw [List.take_of_length_le (by omega)] at e
  exact Paired.mapP e fun _ _ ⟨T,q,t1,t2,t3,t4,t5,t6⟩=>⟨T,q,t1,t2,t3,t4,t5,eb T _ t3 t6⟩
end
theorem Inv.track {X:Cx} {pins:List (Addr×Obj)} {σ:St} {H:Hp} {s:Shared} {T:Addr} {o:HO} {ob:Obj} (I:Inv X pins σ H s) (f:FpOk X pins H T) (hob:s.heap.get? T = some ob) (new:ObjOk X.prog X.w (upd H T o) s.heap T o):Inv X pins σ (upd H T o) s:=by
 have neT:∀ b u,H b = some u→b ≠ T:=fun b u e=>ne_of_none e f.1
 have:=I.step (g':=s.gens) (d':=s.drawn) (t':=s.toks) (h':=s.heap) (H':=upd H T o) (ch:=[T]) (fun b hb=>by
   obtain ⟨f0,f1,f2,f3,f4,f5⟩:=f
   rw [List.mem_singleton] at hb; subst hb
   exact ⟨f3,f1,f4,f5⟩) (fun b o _ _ _ e _=>e) (fun b o _ _ _ e _=>⟨o.slots,e⟩) (fun b o hb _ n=>by rw [upd_ne (fun z=>hb (by simp [z]))]; exact n) (fun b o _ e=>⟨o,e⟩)
  (fun b xs e=>by rw [upd_ne (neT b _ e)]; exact e) (fun b ob u e=>by rw [upd_ne (neT b _ e)]; exact e) (fun b ps e=>⟨#[],by rw [upd_ne (neT b _ e),e]; simp⟩) (fun m hm=>hm) (fun b u e=>?_) I.bare
 ·exact this
 ·by_cases hb:b = T
  ·subst hb; rw [upd_same] at e; cases e; exact new
  ·rw [upd_ne hb] at e
   exact (I.hok b u e).stay (fun c v _ q=>q) (fun c q=>by rw [upd_ne (neT c _ q)]; exact q) fun c xs q=>by rw [upd_ne (neT c _ q)]; exact q
theorem track_tups {X:Cx} {pins:List (Addr×Obj)} {σ:St} {s:Shared} {acc:List Value} {kvs:List (Int×V)}
  (hp:Paired (fun (v:Value) (p:Int×V)=>∃ T key u,v = .ref T∧s.heap.get? T = some { cls:=.type "tuple",data:=.seq #[key,u] }∧RelV (.int p.1) key∧RelV p.2 u) acc kvs):∀ {H:Hp},Inv X pins σ H s→acc.Nodup→(∀ T,Value.ref T ∈ acc→FpOk X pins H T) →
  ∃ H' zs,Inv X pins σ H' s∧Same H H'∧(∀ b,Value.ref b ∉ acc→H' b = H b)∧Vals zs acc∧Paired (fun (z:V) (p:Int×V)=>∃ b,z = .ref b∧H' b = some (.tup [.int p.1,p.2])) zs kvs:=by
 induction hp with
 | nil=>intro H I _ _; exact ⟨H,[],I,Same.refl H,fun _ _=>rfl,.nil,.nil⟩
 | @cons v p acc kvs h t ih =>
  intro H I nd hf
  obtain ⟨T,key,u,rfl,g,r1,r2⟩:=h
  obtain ⟨nd1,nd2⟩:=List.nodup_cons.mp nd
  have f:=hf T (by simp)
  have I1:=I.track (o:=.tup [.int p.1,p.2]) f g ⟨by show 2≤sizeLine; decide,[key,u],.cons r1 (.cons r2 .nil),⟨_,g,rfl,_,rfl⟩⟩
  obtain ⟨H',zs,I',s',k',v',t'⟩:=ih I1 nd2 (fun T' hT'=>by
   have f':=hf T' (by simp [hT'])
   refine ⟨?_,f'.2⟩
   rw [upd_ne (fun e=>nd1 (by rw [← e]; exact hT'))]; exact f'.1)
  have sT:Same H (upd H T (.tup [.int p.1,p.2])):=same_upd (Same.refl H) f.1
  refine ⟨H',.ref T :: zs,I',sT.trans s',fun b hb=>?_,.cons rfl v',.cons ⟨T,rfl,s' _ _ upd_same⟩ t'⟩
  rw [k' b (fun z=>hb (by simp [z])),upd_ne (fun e=>hb (by simp [e]))]
theorem list_items {X:Cx} {pins:List (Addr×Obj)} {σ:St} {H:Hp} {s:Shared} {E:Value→Shared→Prop} {a:Addr} {kvs:List (Int×V)} {Q:VK} (hh:X.A.handled = none) (I:Inv X pins σ H s) (ha:H a = some (.dK (kvs.map fun p=>((Sum.inl p.1:Key),p.2))))
  (k:∀ l zs H',H l = none→Same H H'→H' l = some (.lst zs)→Paired (fun (z:V) (p:Int×V)=>∃ b,z = .ref b∧H' b = some (.tup [.int p.1,p.2])) zs kvs→Q (.ref l) H') :
  wpAny (model X.prog X.w) X.A (call (.builtin "dict.items") [.ref a]) (fun v s1=>wpAny (model X.prog X.w) X.A (call (.type "list") [v]) (EP X pins σ Q) E s1) E s:=by
 obtain ⟨z,y,vs,rel,o,es,ep,ho,hx,hd,hk,hp,hn⟩:=(show ObjOk X.prog X.w H s.heap a (.dK _) from I.hok a _ ha)
 have dd:s.heap.DictOf (mixKind X.prog X.w) a vs:=⟨o,es,ep,ho,hx,hd,hk,hp,hn⟩
 refine call_meetsIn (PySem.F.slot_dict_items) dd.typeIs (PySem.F.entry_dict_items) (PySem.F.args_dict_items_1 _) (meets_dict_items (mixKind X.prog X.w) a y) ⟨⟨vs,dd⟩,?_⟩
 have la:a < s.heap.objs.size:=Heap.lt_size ho
 have hl:es.size = vs.length:=by rw [← hp.length]; simp
 have hl2:vs.length = kvs.length:=by have:=rel.length; simp at this; omega
 have gv:(s.heap.push { cls:=.type "dict_items",data:=.fields #[.ref a] }).get? s.heap.objs.size = some { cls:=.type "dict_items",data:=.fields #[.ref a] }:=Heap.get?_push_size _ rfl
 have ps:(s.heap.push { cls:=.type "dict_items",data:=.fields #[.ref a] }).objs.size = s.heap.objs.size+1:=Heap.size_push ..
 have go:(s.heap.push { cls:=.type "dict_items",data:=.fields #[.ref a] }).get? a = some o:=Heap.get?_push_of_some _ ho
 refine call_list_feed (s:={ s with heap:=s.heap.push { cls:=.type "dict_items",data:=.fields #[.ref a] } }) (T:="dict_items") (n:=es.size) (oI:={ cls:=.type "dict_itemiterator",data:=.fields #[.none,.bool false,.ref a,.int 0 0,.int es.size 0,.int ep 0,.none,.none] }) rfl hh ⟨_,gv,rfl⟩ (by decide) (by decide)
  (by simp at z; omega) (fun A E s' Q hT hq=>hint_items hT hq)
  (fun A E s' Q kp hq=>wpAny_pyIter_items (knd:=mixKind X.prog X.w) (v:=s.heap.objs.size) (d:=a) (kvs:=vs) (ep:=ep) ⟨_,kp _ _ gv,rfl,rfl⟩ ⟨o,es,kp a o go,hx,hd,hk,hp,hn⟩ (by rw [← hl]; exact hq))
  (fun A' hA=>feed_items (knd:=mixKind X.prog X.w) (kvs:=vs) (h0:=s.heap.push { cls:=.type "dict_items",data:=.fields #[.ref a] }) hA (Nat.le_refl _) (Nat.le_succ _) (Nat.succ_ne_self _) go hd hx hk hp hn)
  (fun h kp g=>⟨kp,⟨_,_,_,_,g,.inl ⟨rfl,rfl,rfl⟩⟩,.nil,List.nodup_nil⟩) fun h' tk acc c fin la ga=>?_
 dsimp only at fin ga ⊢
 obtain ⟨kp,tps,nd⟩:=fin
 have kp':∀ b o,s.heap.get? b = some o→h'.get? b = some o:=fun b o e=>kp b o (Heap.get?_push_of_some _ e)
 have I1:Inv X pins σ H { s with heap:=h',toks:=tk }:=I.kept kp'
 have big:∀ b,s.heap.objs.size≤b→FpOk X pins H b:=fun b hb=>I.fpOk hb (I.hok.fresh hb)
 have hp2:Paired (fun (v:Value) (p:Int×V)=>∃ T key u,v = .ref T∧h'.get? T = some { cls:=.type "tuple",data:=.seq #[key,u] }∧RelV (.int p.1) key∧RelV p.2 u) acc kvs:=by
  refine Paired.of_map (by omega) fun i v p e1 e2=>?_
  obtain ⟨q,q1,T,key,t1,_,_,_,t5,t6⟩:=Pair.get tps e1
  obtain ⟨q',q1',r1,r2⟩:=Pair.get rel (i:=i) (x:=((Sum.inl p.1:Key),p.2)) (by rw [List.getElem?_map,e2]; rfl)
  rw [q1] at q1'; cases q1'
  refine ⟨T,key,q.2,t1,t6,?_,r2⟩
  rw [← r1] at t5
  rcases keyIs_shape (show keyIs (Sum.inl p.1) key = true from t5) with ⟨i',t,e3,e4⟩ | ⟨x,t,e3,e4⟩
  ·injection e3 with e3; subst e3; exact ⟨t,e4⟩
  ·cases e3
 have fin':∀ T,Value.ref T ∈ acc→s.heap.objs.size+1≤T∧T ≠ s.heap.objs.size+1:=fun T hT=>by
  obtain ⟨j,hj⟩:=List.mem_iff_getElem?.mp hT
  obtain ⟨q,_,T',key,t1,t2,_,t4,_,_⟩:=Pair.get tps hj
  injection t1 with t1; subst t1
  rw [ps] at t2 t4
  exact ⟨t4,t2⟩
 obtain ⟨H',zs,I',s',k',v',t'⟩:=track_tups hp2 I1 nd fun T hT=>big T (by have:=(fin' T hT).1; omega)
 rw [ps] at ga
 have nl:H (s.heap.objs.size+1) = none:=I.hok.fresh (Nat.le_succ _)
 have nl':H' (s.heap.objs.size+1) = none:=by rw [k' _ (fun hT=>(fin' _ hT).2 rfl)]; exact nl
 have fl:FpOk X pins H' (s.heap.objs.size+1):=⟨nl',(big _ (Nat.le_succ _)).2⟩
 have lz:=v'.length
 have I2:=I'.track (o:=.lst zs) fl ga ⟨by simp at z; omega,acc,c,v',ga⟩
 have sl:=same_upd (o:=.lst zs) (Same.refl H') nl'
 refine ⟨.ref (s.heap.objs.size+1),_,I2,by rw [ps]; rfl,k _ zs _ nl (s'.trans sl) upd_same (Paired.mapP t' fun _ _ ⟨b,e1,e2⟩=>⟨b,e1,sl _ _ e2⟩)⟩
def tListItems (to:TE):TE:=fun σ H Q=>to σ H fun x H1=>∃ a kvs,x = .ref a∧H1 a = some (.dK (kvs.map fun (p:Int×V)=>((Sum.inl p.1:Key),p.2))) ∧
 ∀ l zs H',H1 l = none→Same H1 H'→H' l = some (.lst zs)→Paired (fun (z:V) (p:Int×V)=>∃ b,z = .ref b∧H' b = some (.tup [.int p.1,p.2])) zs kvs→Q (.ref l) H'
theorem pe_listitems {X:Cx} {o:Expr} {to:TE} {p1 apos cpos pos1:Pos} (hh:X.A.handled = none) (hg1:Gl X "list") (hm1:X.mg "list" = none) (ho:PE X o to)
  (hbase:attributeBase o "items" X.env (eval o X.env) = eval o X.env:=by rfl) (hline:(apos.endLine == cpos.line) = true:=by rfl) :
  PE X (.Call (.Name "list" p1) [.Call (.Attribute o "items" apos) [] [] cpos] [] pos1) (tListItems to):=by
 intro pins s σ H Q I h
 refine wpAny_Call_Name_kw (ld_blt I hg1 hm1 (by decide +kernel:bootBuiltins "list" = some (.type "list")) ?_)
 refine callWith_type1 ?_ rfl rfl
 show wpAny _ _ (spliced ((false,eval (.Call (.Attribute o "items" apos) [] [] cpos) X.env) :: [])) _ _ _
 refine Calls.spliced_cons ?_
 refine wpAny_Call_method0_late hbase hline (thn (ho pins s σ H _ I h) fun v s1 ⟨x,H1,I1,r1,a,kvs,ex,ha,k⟩=>?_)
 subst ex
 obtain ⟨h1,h2⟩:=tyV_is (T:="dict") I1 r1 (.inr (.inr (.inl ⟨rfl,.inl ⟨_,ha⟩⟩)))
 obtain rfl:v = Value.ref a:=r1
 refine ⟨"dict","dict.items",PySem.F.plainAttrs_dict,PySem.F.slot_dict_items,PySem.F.type_dict_items,h1,h2,Calls.callWith_builtin rfl (PySem.evalArgs_none ?_)⟩
 exact thn (list_items hh I1 ha k) fun u s2 hu=>Calls.spliced_nil hu
end L2
set_option maxRecDepth 100000
namespace L2
open PySem PySem.Spec PyProof.Rows Geo
def Ite (K:PySem.W.Frag) (l:Addr):It :=
  ⟨fun i H=>∃ xs x,SqL K H l xs∧xs[i]? = some x,
   fun i H v H'=>∃ T,v = .ref T∧H T = none∧∀ xs,SqL K H l xs→∃ x,xs[i]? = some x∧H' = upd H T (.tup [.int (i:Nat),x]),
   fun i H=>∃ xs,SqL K H l xs∧xs.length≤i⟩
theorem turn_enum {P:Program} {w:World} {K:PySem.W.Frag} {elts:List Expr} {kt:Nat} {pt:Pos} {e it l:Addr} (hei:e ≠ it) :
  Turn P w K (.Tuple elts kt pt) (Ite K l) [e,it] e (fun i h=>(∃ old,IsEnum h e it (i:Nat) old)∧h.IsListIter it l i) where
 mem:=by simp
 obj:=fun i h st b hb=>by
  obtain ⟨⟨old,he⟩,⟨o1,e1,c1,d1⟩⟩:=st
  simp only [List.mem_cons,List.not_mem_nil,or_false] at hb
  rcases hb with rfl | rfl
  ·exact ⟨_,he,fun v z=>by have z':Data.fields _ = Data.cell v:=z; cases z'⟩
  ·exact ⟨o1,e1,fun v z=>by rw [d1] at z; cases z⟩
 keep:=fun i h h' st k=>by
  obtain ⟨⟨old,he⟩,h1⟩:=st
  exact ⟨⟨old,k e (by simp) _ he⟩,h1.at fun o q=>k it (by simp) o q⟩
 item:=by
  intro X hP hw hK hc i pins s σ H E I hf st hg
  subst hP hw hK
  obtain ⟨xs,x,q1,hx⟩:=hg
  obtain ⟨its,rv,p,_⟩:=I.list q1
  obtain ⟨u,hu,ru⟩:=rv.get hx
  obtain ⟨⟨old,he⟩,h1⟩:=st
  have l1:it < s.heap.objs.size:=by obtain ⟨_,q,_⟩:=h1; exact Heap.lt_size q
  have l2:e < s.heap.objs.size:=Heap.lt_size he
  refine wpAny_pyNext_enum_item he h1 p.isList (x:=u) (by simpa using hu) hei fun h' ho hit' hT hsz hk=>?_
  refine ⟨.ref s.heap.objs.size,rfl,?_⟩
  refine wpAny_letOwnedTupleGo_enum (s:={ s with heap:=h',toks:=s.toks+1 }) ho fun h'' he' hs'=>?_
  have kk:∀ b v,b ∉ [e,it]→s.heap.get? b = some v→h''.get? b = some v:=fun b v hb q=>by
   simp only [List.mem_cons,List.not_mem_nil,or_false,not_or] at hb
   exact hs'.extBut _ _ hb.1 (hk b v hb.1 hb.2 q)
  have tup:=hs'.extBut _ _ (Nat.ne_of_gt l2) hT
  have I1:Inv X pins σ (upd H s.heap.objs.size (.tup [.int (i:Nat),x])) { s with heap:=h'',toks:=s.toks+1 }:=I.turnedNew (ch:=[e,it]) kk (fun b hb=>hf b hb) (Nat.le_refl _) ⟨by show 2≤sizeLine; decide,[_,u],.cons ⟨_,rfl⟩ (.cons ru .nil),⟨_,tup,rfl,_,rfl⟩⟩
  refine ⟨.ref s.heap.objs.size,_,I1,rfl,⟨s.heap.objs.size,rfl,I.hok.fresh (Nat.le_refl _),fun ys e1=>⟨x,?_,rfl⟩⟩,⟨⟨u,by simpa using he'⟩,hit'.at fun o q=>hs'.extBut _ _ hei.symm q⟩,fun b hb=>?_⟩
  ·rw [I.list_inj e1 q1]; exact hx
  ·have lb:b < s.heap.objs.size:=by
    simp only [List.mem_cons,List.not_mem_nil,or_false] at hb
    rcases hb with rfl | rfl
    ·exact l2
    ·exact l1
   rw [upd_ne (Nat.ne_of_lt lb)]
   exact (hf b hb).1
 done:=by
  intro X hP hw hK hc i pins s σ H E I hf st hg
  subst hP hw hK
  obtain ⟨xs,q1,hl⟩:=hg
  obtain ⟨its,rv,p,_⟩:=I.list q1
  obtain ⟨⟨old,he⟩,h1⟩:=st
  have e1:=rv.length
  refine wpAny_pyNext_enum_end (I.ok.hd hc) he h1 p.isList (by simp; omega) fun h' eb=>⟨rfl,?_⟩
  refine I.turnedL (t':=s.toks) (ch:=[e,it]) (fun b u hb q=>?_) (fun b hb=>hf b hb)
  simp only [List.mem_cons,List.not_mem_nil,or_false,not_or] at hb
  exact eb b u hb.2 q
 self:=fun _ _ _ _ _ st h=>by
  obtain ⟨⟨old,he⟩,_⟩:=st
  exact wpAny_pyIter_enum he h
def iEnum (K:PySem.W.Frag) (ta:TA):TI:=fun σ H R=>ta σ H fun vs H1=>∃ a,vs = [.ref a]∧(∃ xs,SqL K H1 a xs)∧R (Ite K a) H1
theorem boot_enum':bootBuiltins "enumerate" = some (.type "enumerate"):=by decide +kernel
theorem pi_enum {X:Cx} {a:Expr} {ta:TA} {p pos:Pos} {elts:List Expr} {kt:Nat} {pt:Pos} (hg:Gl X "enumerate") (hm:X.mg "enumerate" = none) (ha:PA X [a] ta) (hs:starEach [a] X.env = [(false,eval a X.env)]:=by rfl) :
  PI X (.Tuple elts kt pt) (.Call (.Name "enumerate" p) [a] [] pos) (iEnum X.K ta):=by
 intro pins s σ H R I h
 refine Call_ (ld_blt I hg hm boot_enum' (PyProof.Rows.callWith_type1 (thn (ha pos pins s σ H _ I h) fun us s1 ⟨vs,H1,I1,r1,q1⟩=>?_) hs rfl))
 obtain ⟨l,e,⟨xs,q1⟩,q⟩:=q1
 subst e
 cases r1 with
 | cons r rr =>
  cases rr
  cases r
  obtain ⟨its,rv,p1,_⟩:=I1.list q1
  refine call_enumerate_list p1.isList fun h' he hi hsz hk=>wpAny_pyIter_enum he ?_
  refine ⟨_,[s1.heap.objs.size+1,s1.heap.objs.size],_,_,H1,rfl,I1.kept (t':=s1.toks) hk,turn_enum (Nat.succ_ne_self _),⟨⟨_,he⟩,hi⟩,fun b hb=>?_,q⟩
  have hb':s1.heap.objs.size≤b:=by
   simp only [List.mem_cons,List.not_mem_nil,or_false] at hb
   rcases hb with rfl | rfl <;> omega
  exact I1.fpOk hb' (I1.hok.fresh hb')
theorem for_enum {K:PySem.W.Frag} {a:Addr} {xs:List V} {g:TG} {tb:TS} {D:Ends} {σ:St} {H:Hp} (Pv:Nat→St→Hp→Prop) (h0:Pv 0 σ H) (hl:∀ i σ H,i≤xs.length→Pv i σ H→SqL K H a xs)
  (hs:∀ i x T σ H,xs[i]? = some x→Pv i σ H→H T = none→g (.ref T) σ (upd H T (.tup [.int (i:Nat),x])) fun σ2 H2=>tb { D with nx:=Pv (i+1),ct:=Pv (i+1),bk:=D.nx } σ2 H2) (hd:∀ σ H,Pv xs.length σ H→D.nx σ H) :
  ∃ W:Nat→Nat→St→Hp→Prop,(∃ m,W 0 m σ H)∧∀ i m σ H,W i m σ H →
   ((Ite K a).stop i H∧D.nx σ H)∨((Ite K a).go i H∧∃ N:St→Hp→Prop,(∀ σ' H',N σ' H'→∃ m',m' < m∧W (i+1) m' σ' H')∧∀ x H',(Ite K a).yld i H x H'→g x σ H' fun σ2 H2=>tb { D with nx:=N,ct:=N,bk:=D.nx } σ2 H2):=by
 refine ⟨fun i m σ H=>m = xs.length - i∧i≤xs.length∧Pv i σ H,⟨xs.length,by simp,Nat.zero_le _,h0⟩,?_⟩
 rintro i m σ H ⟨rfl,hi,p⟩
 have q:=hl i σ H hi p
 by_cases hlt:i < xs.length
 ·refine .inr ⟨⟨xs,xs[i],q,by simp [hlt]⟩,Pv (i+1),fun σ' H' p'=>⟨xs.length - (i+1),by omega,rfl,hlt,p'⟩,fun x H' y=>?_⟩
  obtain ⟨T,rfl,nT,hy⟩:=y
  obtain ⟨x',e1,rfl⟩:=hy xs q
  exact hs i x' T σ _ e1 p nT
 ·have e:i = xs.length:=by omega
  subst e
  exact .inl ⟨⟨xs,q,Nat.le_refl _⟩,hd σ H p⟩
end L2
set_option maxRecDepth 100000
namespace L2
open PySem PySem.Spec PyProof.Rows Geo PySem.W STab
section
variable {A:Around} {s:Shared}
end
section
variable {X:Cx}
def rNotInP2 (K:PySem.W.Frag):R2:=fun x y H Q=>∃ a b c d xs us vs ps qs rs,x = .ref a∧y = .ref b∧SqL K H b [.ref c,.ref d]∧SqL K H a xs∧ArePts H xs ps∧SqL K H c us∧ArePts H us qs∧SqL K H d vs∧ArePts H vs rs∧c ≠ d∧c ≠ a∧d ≠ a∧Q (.bl (!(decide (qs = ps) || decide (rs = ps)))) H
theorem op_notInP2 (hu:X.A.units+16 < cLine):OpR X (compareOp .NotIn) (rNotInP2 X.K):=by
 intro pins s σ H x y v u Q I rx ry h
 obtain ⟨a,b,c,d,xs,us,vs,ps,qs,rs,rfl,rfl,hb,ha,hp,hc,hq,hd,hr,cd,ca,da,k⟩:=h
 obtain rfl:=rx
 obtain rfl:=ry
 obtain ⟨is,r0,l0,_⟩:=I.list hb
 obtain ⟨xs',r1,l1,_⟩:=I.list ha
 obtain ⟨us',r2,l2,_⟩:=I.list hc
 obtain ⟨vs',r3,l3,_⟩:=I.list hd
 cases r0 with
 | cons e0 r0 =>
  cases r0 with
  | cons e1 r0 =>
   cases r0
   obtain rfl:=e0
   obtain rfl:=e1
   refine SeqAt.notIn_listAt (fun u=>match u with | .ref z=>if z = c then decide (qs = ps) else decide (rs = ps) | _=>false) l0.isList (fun w hw=>?_) ⟨.bl _,H,I,rfl,?_⟩
   ·have hw':w = .ref c∨w = .ref d:=by simpa using hw
    rcases hw' with e | e
    ·subst e
     dsimp only
     rw [if_pos rfl]
     exact SeqAt.EqAt.of_refs ca (rc_pts (by show X.A.units+1+1 < cLine; omega) l2.isList l1.isList (I.tupsAt r2 hq) (I.tupsAt r1 hp))
    ·subst e
     dsimp only
     rw [if_neg (Ne.symm cd)]
     exact SeqAt.EqAt.of_refs da (rc_pts (by show X.A.units+1+1 < cLine; omega) l3.isList l1.isList (I.tupsAt r3 hr) (I.tupsAt r1 hp))
   ·simp only [List.any_toArray,List.any_cons,List.any_nil,Bool.or_false,if_pos,if_neg (Ne.symm cd)]
    exact k
end
end L2
set_option maxRecDepth 100000
namespace L2
open PySem PySem.Spec PyProof.Rows Geo PySem.W STab SeqAt
theorem op_fdivB {X:Cx}:OpR X (binaryOp .FloorDiv) (rI (fun _ j=>0 < j∧j < 2 ^ 200) fun i j=>.int (i / j)):=opI fun i j _ _ _ _ _ hc q=>by
 have p:(0:Int) < j:=hc.1
 have b:j < 2 ^ 200:=hc.2
 have l:j.natAbs.log2 < 9000:=by
  have:j.natAbs < 2 ^ 200:=by omega
  have:=(Nat.log2_lt (n:=j.natAbs) (k:=200) (by omega)).mpr this
  omega
 exact floordiv_int (by omega) (by rw [Int.fdiv_eq_ediv_of_nonneg i (by omega)]; exact q) (.inl (PyProof.noPylong_of_log2 l))
def firstLt (e lt:Nat→Bool):List Nat→Bool
 | []=>false
 | i :: r=>if e i then firstLt e lt r else lt i
section
variable {prog:Program} {w:World} {A:Around} {R:Result→Shared→Prop} {I S:Addr} {fp wr:List Addr} {n:Nat} {P:Nat→Value→Prop} {St:Nat→Heap→Prop} {Kp:Heap→Prop} {bt:Nat→Nat→Bool}
abbrev two (S:Addr) (v:Value) (c:Nat) (h:Heap):Prop:=h.get? S = some { cls:=.type "list",dict:=none,data:=.seq #[v,v] c,slots:=#[] }
end
section
variable {prog:Program} {w:World} {A:Around} {E:Value→Shared→Prop} {s:Shared} {l:Addr} {xs:Array Value} {bt:Nat→Nat→Bool}
end
section
variable {A:Around} {s:Shared}
def TriAt (h:Heap) (u:Value) (t:Tri):Prop:=∃ (b:Addr) (o:Obj) (a1 a2 a3:Tok) (n:Nat),u = .ref b∧h.get? b = some o∧o.cls = .type "tuple"∧o.data = .seq #[.int t.1 a1,.int t.2.1 a2,.int t.2.2 a3] n
def CntAt (h:Heap) (u:Value) (c:Int×Tri):Prop:=∃ (b:Addr) (o:Obj) (a1:Tok) (v:Value) (n:Nat),u = .ref b∧h.get? b = some o∧o.cls = .type "tuple"∧o.data = .seq #[.int c.1 a1,v] n∧TriAt h v c.2
theorem TriAt.keep {h h':Heap} {u:Value} {t:Tri} (x:TriAt h u t) (k:∀ b o,h.get? b = some o→h'.get? b = some o):TriAt h' u t:=by
 obtain ⟨b,o,a1,a2,a3,n,e,g,c,d⟩:=x; exact ⟨b,o,a1,a2,a3,n,e,k _ _ g,c,d⟩
theorem CntAt.keep {h h':Heap} {u:Value} {c:Int×Tri} (x:CntAt h u c) (k:∀ b o,h.get? b = some o→h'.get? b = some o):CntAt h' u c:=by
 obtain ⟨b,o,a1,v,n,e,g,q,d,t⟩:=x; exact ⟨b,o,a1,v,n,e,k _ _ g,q,d,t.keep k⟩
theorem TriAt.inj {h:Heap} {u:Value} {t t':Tri} (x:TriAt h u t) (y:TriAt h u t'):t = t':=by
 obtain ⟨b,o,a1,a2,a3,n,rfl,g,c,d⟩:=x
 obtain ⟨b',o',a1',a2',a3',n',e',g',c',d'⟩:=y
 cases e'
 rw [g] at g'; cases g'
 rw [d] at d'
 injection d' with d1 _
 have d2:=congrArg Array.toList d1
 simp at d2
 exact Prod.ext d2.1.1 (Prod.ext d2.2.1.1 d2.2.2.1)
end
section
variable {X:Cx} {pins:List (Addr×Obj)} {σ:St} {H:Hp} {s:Shared}
end
end L2
set_option maxRecDepth 100000
namespace L2
open PySem PySem.Spec PyProof.Rows PySem.Builtin PySem.Builtin.Str
theorem strs_of:∀ {zs:List Str} {us:List Value},Vals (zs.map V.str) us→∃ l:List (Str×Tok),us = strValues l∧l.map (·.1) = zs
 | [],us,r=>by rw [List.map_nil] at r; cases r; exact ⟨[],rfl,rfl⟩
 | z :: zs,us,r=>by
  rw [List.map_cons] at r
  cases r with
  | cons r1 r2 =>
   obtain ⟨t,rfl⟩:=r1
   obtain ⟨l,rfl,e⟩:=strs_of r2
   exact ⟨(z,t) :: l,rfl,by rw [List.map_cons,e]⟩
section
variable {X:Cx}
theorem mt_join:MtR X "str.join" (fun x xs H Q=>∃ sep p zs,x = .str sep∧xs = [.ref p]∧SqL X.K H p (zs.map V.str)∧JoinOk sep zs = true∧Q (.str (Txt.join sep zs)) H):=by
 intro pins s σ H x xs v us Q I rx rv h
 obtain ⟨sep,p,zs,rfl,rfl,hq,hok,k⟩:=h
 obtain ⟨t,rfl⟩:=rx
 cases rv with
 | cons r1 rv =>
  cases rv
  obtain rfl:=r1
  obtain ⟨its,r,pl,_⟩:=I.list hq
  obtain ⟨l,rfl,e⟩:=strs_of r
  exact SC.join pl.isList e hok fun t' tk=>⟨.str _,H,I.tok tk,⟨t',rfl⟩,k⟩
def PF (X:Cx) (es:List Expr) (t:St→Hp→Str→VK→Prop):Prop :=
 ∀ (pins:List (Addr×Obj)) (s:Shared) (σ:St) (H:Hp) (out:Str) (Q:VK),Inv X pins σ H s→t σ H out Q→wpAny (model X.prog X.w) X.A (joinParts out (evalEach es X.env)) (EP X pins σ Q) X.xe s
def fNil:St→Hp→Str→VK→Prop:=fun _ H out Q=>out.length≤sizeLine∧Q (.str out) H
def fCons (te:TE) (t:St→Hp→Str→VK→Prop):St→Hp→Str→VK→Prop:=fun σ H out Q=>te σ H fun v H1=>∃ y,v = .str y∧(out++y).length≤sizeLine∧t σ H1 (out++y) Q
theorem pf_nil:PF X [] fNil:=by
 intro pins s σ H out Q I h
 exact joinParts_nil ⟨.str out,H,I.tok _,⟨_,rfl⟩,h.2⟩ h.1
theorem pf_cons {e:Expr} {es:List Expr} {te:TE} {t:St→Hp→Str→VK→Prop} (he:PE X e te) (hs:PF X es t):PF X (e :: es) (fCons te t):=by
 intro pins s σ H out Q I h
 refine joinParts_cons (thn (he pins s σ H _ I h) fun v s1 ⟨x,H1,I1,r1,q1⟩=>?_)
 obtain ⟨y,rfl,hz,q⟩:=q1
 obtain ⟨t,rfl⟩:=r1
 exact ⟨hz,hs pins s1 σ H1 _ Q I1 q⟩
theorem pe_joined {a b:Expr} {es:List Expr} {t:St→Hp→Str→VK→Prop} {pos:Pos} (h:PF X (a :: b :: es) t):PE X (.JoinedStr (a :: b :: es) pos) (fun σ H Q=>t σ H PySem.Str.empty Q):=by
 intro pins s σ H Q I hw
 exact JoinedStr_many (h pins s σ H _ Q I hw)
def tFmt (te:TE):TE:=fun σ H Q=>te σ H fun v H1=>∃ i,v = .int i∧i.natAbs.log2 < 1920∧Q (.str (toString i)) H1
theorem pe_fmt {e:Expr} {te:TE} {pos:Pos} (he:PE X e te):PE X (.FormattedValue e (-1) none pos) (tFmt te):=by
 intro pins s σ H Q I h
 refine FormattedValue_plain (thn (he pins s σ H _ I h) fun v s1 ⟨x,H1,I1,r1,q1⟩=>?_)
 obtain ⟨i,rfl,hi,q⟩:=q1
 obtain ⟨t,rfl⟩:=r1
 exact formatField_int_small hi ⟨.str _,H1,I1.tok _,⟨_,rfl⟩,q⟩
end
end L2
set_option maxRecDepth 100000
namespace L2
open PySem PySem.Spec PyProof.Rows PySem.W
theorem ObjOk.there {P:Program} {w:World} {H:Hp} {h:Heap} {a:Addr} {o:HO} (x:ObjOk P w H h a o):∃ u,h.get? a = some u:=by
 cases o with
 | lst xs=>obtain ⟨_,_,_,_,e⟩:=x; exact ⟨_,e⟩
 | tup xs=>obtain ⟨_,_,_,o,e,_⟩:=x; exact ⟨_,e⟩
 | dK kvs=>obtain ⟨_,_,_,_,o,_,_,e,_⟩:=x; exact ⟨_,e⟩
 | dT kvs=>obtain ⟨_,_,_,_,o,_,_,e,_⟩:=x; exact ⟨_,e⟩
 | set S n=>obtain ⟨o,_,_,_,e,_⟩:=x; exact ⟨_,e⟩
 | ins C dx fs=>obtain ⟨_,_,_,e,_⟩:=x; exact ⟨_,e⟩
 | own y=>exact x
 | xd fs=>obtain ⟨_,⟨_,_,_,e,_⟩,_⟩:=x; exact ⟨_,e⟩
 | rng lo hi=>obtain ⟨_,_,_,e⟩:=x; exact ⟨_,e⟩
 | frz ob u=>obtain ⟨e,_⟩:=x; exact ⟨_,e⟩
 | tbl ps=>exact ⟨_,x⟩
 | met f y=>exact ⟨_,x⟩
 | ext φ=>obtain ⟨_,e,_⟩:=x; exact e
def CXE (P:Program) (w:World):CXT:=fun outer H s E e s'=>∃ (a:Addr) (C a0:Value) (B:Heap) (H':Hp),e = .ref a∧s'.os = s.os∧AllBare s'.gens∧Heap.FlyingW B outer a C a0 s'.heap ∧
 (∀ b o,s.heap.get? b = some o→b ∉ frs outer→∃ o',B.get? b = some o')∧(∀ b x,H' b = some x→∃ o,B.get? b = some o)∧Un (frs outer) [] H H' s.heap s'.heap∧HOk P w H' s'.heap∧E C none H'
theorem fly_un {B h hh h2:Heap} {fs:List Addr} {H H':Hp} (hs:∀ b o,h.get? b = some o→b ∉ fs→∃ o',B.get? b = some o') (f1:B.StaysIn hh) (f2:B.StaysIn h2)
  (fr:∀ b ∈ fs,∃ o,hh.get? b = some o∧∀ vs,o.data ≠ .fields vs) (un:Un fs [] H H' h hh) (up:hh.UpToSlots h2):Un fs [] H H' h h2 where
 keep:=fun b o e n nb hx=>by
  have e2:=un.keep b o e n nb hx
  obtain ⟨o',eB⟩:=hs b o e nb
  have e3:=f1 b o' eB
  rw [e2] at e3
  cases e3
  exact f2 b _ eB
 slot:=fun b o e n hb hx=>by
  obtain ⟨sl,e2⟩:=un.slot b o e n hb hx
  obtain ⟨o3,e3,nf⟩:=fr b hb
  rw [e2] at e3
  cases e3
  obtain ⟨sl',e4⟩:=up b _ e2 nf
  exact ⟨sl',e4⟩
 free:=un.free
 there:=fun b o e hx=>by
  by_cases hb:b ∈ fs
  ·obtain ⟨o3,e3,nf⟩:=fr b hb
   obtain ⟨sl,e4⟩:=up b _ e3 nf
   exact ⟨_,e4⟩
  ·obtain ⟨o',eB⟩:=hs b o e hb
   exact ⟨_,f2 b o' eB⟩
 tups:=un.tups
 frzs:=un.frzs
 tbls:=un.tbls
theorem fly_ok {P:Program} {w:World} {B hh h2:Heap} {H':Hp} (ht:∀ b x,H' b = some x→∃ o,B.get? b = some o) (f1:B.StaysIn hh) (f2:B.StaysIn h2) (hok:HOk P w H' hh):HOk P w H' h2:=fun b x e=>by
 refine (hok b x e).stay (fun c u hc q=>?_) (fun _ z=>z) fun _ _ z=>z
 have:∃ y,H' c = some y:=by
  rcases hc with z | z
  ·exact ⟨x,by rw [z]; exact e⟩
  ·exact ⟨_,z⟩
 obtain ⟨y,hy⟩:=this
 obtain ⟨o,eB⟩:=ht c y hy
 have e3:=f1 c o eB
 rw [q] at e3
 cases e3
 exact f2 c _ eB
section
variable {P:Program} {w:World} {K:PySem.W.Frag} {mg:Str→Option Value} {base:Heap} {N:List Str} {qual:Str} {scope:Scope} {f:Addr} {cd:Value} {A:Around} {outer:List Env} {s:Shared} {H:Hp} {E:XK}
theorem passE:Passes (CXE P w) (cxOf (CXE P w) P w K mg base N qual scope f cd A outer s H E) E:=by
 intro pins σ H1 s1 e s' I h
 obtain ⟨a,C,a0,B,H',rfl,os,gens,fl,hs,ht,un,hok,q⟩:=h
 have I2:=I.call' (s':=s') os un hok gens (fun b z=>absurd z (by simp))
 refine wpAny_leaves_onW I.ok.frames rfl fl fun h2 fl2 up=>?_
 have hs':∀ b o,s.heap.get? b = some o→b ∉ frs outer→∃ o',B.get? b = some o':=fun b o e nb=>by
  obtain ⟨o1,e1⟩:=I.base.there b o e (by simp [cxOf])
  refine hs b o1 e1 fun hb=>?_
  rcases List.mem_cons.mp (I.stkSub b hb) with z | z
  ·exact absurd (Nat.lt_of_lt_of_le (Heap.lt_size e) (by rw [z]; exact I.ok.above)) (Nat.lt_irrefl _)
  ·exact nb z
 have fr:∀ b ∈ frs outer,∃ o,s'.heap.get? b = some o∧∀ vs,o.data ≠ .fields vs:=fun b hb=>(fl.2.2.1.mem (show b ∈ frs (_ :: outer) by unfold frs; rw [List.filterMap_cons]; split <;> simp [frs] at hb ⊢ <;> first | exact hb | exact .inr hb)).2
 exact ⟨a,C,a0,B,H',rfl,I2.os,gens,fl2,hs',ht,fly_un hs' fl.1 fl2.1 fr I2.base up,fly_ok ht fl.1 fl2.1 hok,q⟩
def Raises (X:Cx) (E:XK):Prop:=∀ (pins:List (Addr×Obj)) (σ:St) (H:Hp) (s:Shared) (h':Heap) (e:Addr) (C:Value) (vs:List Value),Inv X pins σ H s→Heap.MadeExcOf s.heap h' e C vs→E C none H→X.xe (.ref e) { s with heap:=h' }
theorem raisesE:Raises (cxOf (CXE P w) P w K mg base N qual scope f cd A outer s H E) E:=by
 intro pins σ H1 s1 h' e C vs I mk q
 have inS:∀ env ∈ (cxOf (CXE P w) P w K mg base N qual scope f cd A outer s H E).stack,∀ b,env.frame = some b→b ∈ frs (cxOf (CXE P w) P w K mg base N qual scope f cd A outer s H E).stack:=fun env he b hb=>List.mem_filterMap.mpr ⟨env,he,hb⟩
 refine wpAny_leaves_madeW (base:=hideAll s1.heap (frs (cxOf (CXE P w) P w K mg base N qual scope f cd A outer s H E).stack)) (h:=s1.heap) I.ok.frames rfl (fun b o z=>of_hideAll _ z) (funFrames_hide I.stack inS) mk fun h2 t fl _ _ up=>?_
 have there:∀ b o,s1.heap.get? b = some o→b ∉ frs (cxOf (CXE P w) P w K mg base N qual scope f cd A outer s H E).stack→(hideAll s1.heap (frs (cxOf (CXE P w) P w K mg base N qual scope f cd A outer s H E).stack)).get? b = some o:=fun b o e nb=>hideAll_get _ e nb
 have hs':∀ b o,s.heap.get? b = some o→b ∉ frs outer→∃ o',(hideAll s1.heap (frs (cxOf (CXE P w) P w K mg base N qual scope f cd A outer s H E).stack)).get? b = some o':=fun b o e nb=>by
  obtain ⟨o1,e1⟩:=I.base.there b o e (by simp [cxOf])
  refine ⟨o1,there b o1 e1 fun hb=>?_⟩
  rcases List.mem_cons.mp (I.stkSub b hb) with z | z
  ·exact absurd (Nat.lt_of_lt_of_le (Heap.lt_size e) (by rw [z]; exact I.ok.above)) (Nat.lt_irrefl _)
  ·exact nb z
 have ht:∀ b x,H1 b = some x→∃ o,(hideAll s1.heap (frs (cxOf (CXE P w) P w K mg base N qual scope f cd A outer s H E).stack)).get? b = some o:=fun b x e=>by
  obtain ⟨o,eo⟩:=(I.hok b x e).there
  exact ⟨o,there b o eo fun hb=>by rw [I.stkFree b hb] at e; cases e⟩
 have f1:(hideAll s1.heap (frs (cxOf (CXE P w) P w K mg base N qual scope f cd A outer s H E).stack)).StaysIn s1.heap:=fun b o z=>of_hideAll _ z
 have up1:s1.heap.UpToSlots h2:=(Heap.UpToSlots.of_keeps mk.keeps).trans up
 have fr:∀ b ∈ frs outer,∃ o,s1.heap.get? b = some o∧∀ vs,o.data ≠ .fields vs:=fun b hb=>(I.funs.mem hb).2
 exact ⟨e,C,.ref t,_,H1,rfl,I.os,I.bare,fl,hs',ht,fly_un hs' f1 fl.1 fr I.base up1,fly_ok ht f1 fl.1 I.hok,q⟩
end
def tRaise (C:Value) (ta:TA) (E:XK):TS:=fun _ σ H=>ta σ H fun vs H1=>vs.length≤100∧E C none H1
theorem ps_raise {X:Cx} {E:XK} {x:Str} {C:Addr} {bm:List Value} {newId B initId:String} {e₀:Expr} {rest:List Expr} {ta:TA} {np cpos pos:Pos} (O:OwnCls x C bm newId X.mg X.base) (FB:ExcBaseFacts B newId initId bm) (hR:Raises X E) (hc:X.calm = true) (hg:Gl X x)
  (ha:PA X (e₀ :: rest) ta) (he:starEach (e₀ :: rest) X.env = (false,eval e₀ X.env) :: starEach rest X.env:=by rfl) (hplain:(backTo cpos (starEach rest X.env)).any (·.1) = false:=by rfl) (hd:(x == ("__debug__":Str)) = false:=by decide) :
  PS X (.Raise (some (.Call (.Name x np) (e₀ :: rest) [] cpos)) none pos) (tRaise (.ref C) ta E):=by
 intro pins s σ H D I h
 have O1:=O.keeps (h':=s.heap) I.bk
 obtain ⟨tl,N,nm,q,bs,hdct,sn,sub,ab,col,dd,k0,k1,k2,k3,k5,mN,hC,hN,hni,T⟩:=O.obj
 refine wpAny_Raise_call_subT (C:=C) (nm:=nm) (q:=q) (N:=N) (bs:=bs) (bm:=tl) (hdct:=hdct) (sn:=sn) (sub:=sub) (ab:=ab) (col:=col) (dd:=dd) (k0:=k0) (k1:=k1) (k2:=k2) (k3:=k3) (k5:=k5)
  FB (mN:=mN) (T.hasType FB.hasBase) (I.ok.hd hc) (by rw [he]; show (false || (backTo cpos (starEach rest X.env)).any (·.1)) = false; rw [hplain]; rfl) hni
  (thn (pe_glob (v:=.ref C) (pos:=np) hg O.bound rfl hd pins s σ H (fun v H'=>v = .ref C∧H' = H) I ⟨rfl,rfl⟩) fun u s1 ⟨v,H',I1,r1,e1,e2⟩=>?_)
 subst e1 e2
 cases r1
 refine ⟨rfl,?_⟩
 have hA:=ha cpos pins s1 σ _ _ I1 h
 rw [he] at hA ⊢
 refine Calls.evalArgs_plain (wpAny_mono hA (fun us s2 ⟨vs,H2,I2,r2,lv,q2⟩=>?_) fun _ _ y=>y)
 refine ⟨rfl,by rw [← r2.length]; exact Nat.le_of_lt (Nat.lt_of_le_of_lt lv (by decide)),I2.bk _ _ hC,hN.keeps I2.bk,T.keeps I2.bk,fun h' e mk=>hR pins σ H2 s2 h' e _ _ I2 mk q2⟩
theorem Inv.relocal {X:Cx} {pins:List (Addr×Obj)} {σ:St} {H:Hp} {s:Shared} {h':Heap} {m':Str→Option Value} {t':Nat} (I:Inv X pins σ H s) (hn:h'.Ns X.env.locals m') (hs:Heap.SameBut X.env.locals s.heap h') :
  Inv X pins (List.replicate X.N.length none) H { s with heap:=h',toks:=t' }:=by
 have cne:=I.cne
 obtain ⟨m,hnm,_⟩:=id I.loc
 obtain ⟨oL,_,_,hoL,_⟩:=id hnm
 have lt:∀ b o,X.s₀.heap.get? b = some o→b ≠ X.env.locals:=fun b o e=>Nat.ne_of_lt (Nat.lt_of_lt_of_le (Heap.lt_size e) I.ok.above)
 refine ⟨I.ok,I.os,I.bare,⟨fun b o e n hb hx=>?_,fun b o e n hb hx=>?_,I.base.free,fun b o e hx=>?_,I.base.tups,I.base.frzs,I.base.tbls⟩,⟨_,hn,fun j y v' e1 e2 e3=>?_⟩,fun y c e=>?_,I.free,I.freeC,fun p hp=>?_,fun b ob e=>?_,by simp⟩
 ·exact (hs.2 b (lt b o e)).trans (I.base.keep b o e n hb hx)
 ·obtain ⟨sl,e1⟩:=I.base.slot b o e n hb hx
  exact ⟨sl,(hs.2 b (lt b o e)).trans e1⟩
 ·obtain ⟨o',e1⟩:=I.base.there b o e hx
  exact ⟨o',(hs.2 b (lt b o e)).trans e1⟩
 ·rw [List.getElem?_replicate] at e2
  split at e2 <;> cases e2
 ·obtain ⟨w',z⟩:=I.cell y c e
  exact ⟨w',z.sameBut hs (cne y c e)⟩
 ·obtain ⟨e,n,ne,nf,d⟩:=I.pin p hp
  exact ⟨(hs.2 p.1 ne).trans e,n,ne,nf,d⟩
 ·refine (I.hok b ob e).stay (fun c w' hc q=>(hs.2 c ?_).trans q) (fun _ q=>q) fun _ _ q=>q
  rintro rfl
  rcases hc with z | hc
  ·rw [← z,I.free] at e; cases e
  ·rw [I.free] at hc; cases hc
abbrev Cx.inExc (X:Cx) (a:Addr):Cx:={ X with A:=X.A.mark (some (.ref a)),calm:=false,xe:=fun _ _=>False }
theorem Inv.inExc {X:Cx} {pins:List (Addr×Obj)} {σ:St} {H:Hp} {s:Shared} (I:Inv X pins σ H s) (a:Addr):Inv (X.inExc a) pins σ H s :=
 ⟨⟨I.ok.mod,I.ok.kind,I.ok.glob,I.ok.blt,I.ok.above,I.ok.inj,I.ok.has,I.ok.cab,(fun z=>by cases z),I.ok.frames,I.ok.stk,I.ok.exf,I.ok.bs,I.ok.bsz,I.ok.noex,I.ok.exfs,I.ok.funs,I.ok.frf⟩,I.os,I.bare,I.base,I.loc,I.cell,I.free,I.freeC,I.pin,I.hok,I.len⟩
theorem Inv.outExc {X:Cx} {pins:List (Addr×Obj)} {σ:St} {H:Hp} {s:Shared} {a:Addr} (hd:X.calm = true→X.A.handled = none) (I:Inv (X.inExc a) pins σ H s):Inv X pins σ H s :=
 ⟨⟨I.ok.mod,I.ok.kind,I.ok.glob,I.ok.blt,I.ok.above,I.ok.inj,I.ok.has,I.ok.cab,hd,I.ok.frames,I.ok.stk,I.ok.exf,I.ok.bs,I.ok.bsz,I.ok.noex,I.ok.exfs,I.ok.funs,I.ok.frf⟩,I.os,I.bare,I.base,I.loc,I.cell,I.free,I.freeC,I.pin,I.hok,I.len⟩
abbrev Cx.tried (X:Cx) (pn:List (Addr×Obj)) (xe:Value→Shared→Prop):Cx:={ X with pn:=pn,xe:=xe }
theorem Inv.tried {X:Cx} {pins:List (Addr×Obj)} {σ:St} {H:Hp} {s:Shared} (I:Inv X pins σ H s) (xe:Value→Shared→Prop):Inv (X.tried (X.pn++pins) xe) [] σ H s :=
 ⟨⟨I.ok.mod,I.ok.kind,I.ok.glob,I.ok.blt,I.ok.above,I.ok.inj,I.ok.has,I.ok.cab,I.ok.hd,I.ok.frames,I.ok.stk,I.ok.exf,I.ok.bs,I.ok.bsz,I.ok.noex,I.ok.exfs,I.ok.funs,I.ok.frf⟩,I.os,I.bare,I.base,I.loc,I.cell,I.free,I.freeC,fun p hp=>I.pin p (by simpa using hp),I.hok,I.len⟩
theorem Inv.untried {X:Cx} {pins p2:List (Addr×Obj)} {σ:St} {H:Hp} {s:Shared} {xe:Value→Shared→Prop} (I:Inv (X.tried (X.pn++pins) xe) p2 σ H s):Inv X pins σ H s :=
 ⟨⟨I.ok.mod,I.ok.kind,I.ok.glob,I.ok.blt,I.ok.above,I.ok.inj,I.ok.has,I.ok.cab,I.ok.hd,I.ok.frames,I.ok.stk,I.ok.exf,I.ok.bs,I.ok.bsz,I.ok.noex,I.ok.exfs,I.ok.funs,I.ok.frf⟩,I.os,I.bare,I.base,I.loc,I.cell,I.free,I.freeC,fun p hp=>I.pin p (List.mem_append_left _ hp),I.hok,I.len⟩
theorem SP.untried {X:Cx} {pins p2:List (Addr×Obj)} {xe:Value→Shared→Prop} {D:Ends} {f:Flow} {s':Shared} (h:SP (X.tried (X.pn++pins) xe) p2 D f s'):SP X pins D f s':=by
 cases f with
 | next=>obtain ⟨σ',H',I,q⟩:=h; exact ⟨σ',H',I.untried,q⟩
 | brk=>obtain ⟨σ',H',I,q⟩:=h; exact ⟨σ',H',I.untried,q⟩
 | cont=>obtain ⟨σ',H',I,q⟩:=h; exact ⟨σ',H',I.untried,q⟩
 | ret u=>obtain ⟨v,σ',H',I,r,q⟩:=h; exact ⟨v,σ',H',I.untried,r,q⟩
def excH (a:Addr) (C:Value):HO:=.ext fun h=>∃ o vs,h.get? a = some o∧o.cls = C∧o.data = .fields vs
structure Catches (base:Heap) (CH c:Addr):Prop where
 own:∃ nm q N bs bm hdct sn sub ab col dd k0 k1 k2 k3 k5 newId,base.get? c = some (excClassObj nm q c N bs bm hdct sn sub ab col dd k0 k1 k2 k3 k5 newId)∧(Value.ref c :: bm).contains (.ref CH) = true
 by_:∃ nm q N bs bm hdct sn sub ab col dd k0 k1 k2 k3 k5 newId,base.get? CH = some (excClassObj nm q CH N bs bm hdct sn sub ab col dd k0 k1 k2 k3 k5 newId)∧bm.contains (.type "BaseException") = true
theorem matches_own {M:Model} {A:Around} {E:Value→Shared→Prop} {h:Heap} {g:Array GenState} {d:Drawn} {t:Nat} {os:OsState} {e CH c:Addr} {oe:Obj} {Q:Bool→Shared→Prop} (m:Catches h CH c) (he:h.get? e = some oe) (hcls:oe.cls = .ref c)
  (hq:Q true ⟨h,g,d,t,os⟩):wpAny M A (excMatches (.ref e) (.ref CH)) Q E ⟨h,g,d,t,os⟩:=by
 obtain ⟨nm,q,N,bs,bm,hdct,sn,sub,ab,col,dd,k0,k1,k2,k3,k5,newId,hC,hcC⟩:=m.own
 obtain ⟨nm',q',N',bs',bm',hdct',sn',sub',ab',col',dd',j0,j1,j2,j3,j5,newId',hH,hbase⟩:=m.by_
 have hcB:(Value.ref CH :: bm').contains (.type "BaseException") = true:=by rw [List.contains_cons,hbase,Bool.or_true]
 have f:=tc_notTuple
 unfold excMatches
 repeat (first | (with_reducible refine wpAny_loadPart_at he ?_; rw [hcls]) | with_reducible refine wpAny_loadPart_at hH ?_ | (with_reducible refine wpAny_isSubtype_exc hH ?_; rw [hcB]) | (with_reducible refine wpAny_isSubtype_exc hC ?_; rw [hcC]) | wp_step)
 exact hq
def EH (X:Cx) (Mt:Addr→Prop) (i:Nat) (ts:TS) (D:Ends):XK:=fun C _ H'=>(∃ c,C = .ref c∧Mt c)∧∀ (σ':St) (a:Addr),σ'.length = X.N.length→H' a = none→ts { nx:=fun _ _=>False,rt:=D.rt } (σ'.set i (some (.ref a))) (upd H' a (excH a C))
def tTry (X:Cx) (Mt:Addr→Prop) (i:Nat) (tb:XK→TS) (ts:TS):TS:=fun D σ H=>tb (EH X Mt i ts D) D σ H
theorem ps_tryE {X:Cx} {body suite:List Stmt} {b₀:Stmt} {x n:Str} {np hpos pos:Pos} {i:Nat} {CH:Addr} {Mt:Addr→Prop} {tb:XK→TS} {ts:TS} (hM:X.K.In X.base→∀ c,Mt c→Catches X.base CH c) (hst:X.stack = X.env :: X.outer) (hfr:X.env.frame = some X.env.locals) (hc:X.calm = true)
  (hb:∀ (E:XK) (pn':List (Addr×Obj)) (xe':Value→Shared→Prop),Passes (CXE X.prog X.w) (X.tried pn' xe') E→PSs (X.tried pn' xe') body (tb E))
  (hg:Gl X x) (hm:X.mg x = some (.ref CH)) (hN:X.N.Nodup) (hi:X.N[i]? = some n) (hx:X.env.scope.names.lookup n = some .local) (hs:∀ a,PSs (X.inExc a) (b₀ :: suite) ts) (hd:(x == ("__debug__":Str)) = false:=by decide) :
  PS X (.Try body [.ExceptHandler (some (.Name x np)) (some n) (b₀ :: suite) hpos] [] [] pos) (tTry X Mt i tb ts):=by
 intro pins s σ H D I h
 refine wpAny_Try_except (wpAny_mono (hb (EH X Mt i ts D) (X.pn++pins) (fun e s'=>∃ σ1 H1 s1,Inv X pins σ1 H1 s1∧CXE X.prog X.w X.stack H1 s1 (EH X Mt i ts D) e s') (fun p2 σ1 H1 s1 e s' I1 z=>⟨σ1,H1,s1,I1.untried,z⟩) [] s σ H D (I.tried _) h) (fun f s1 q=>?_) fun e s1 z=>?_)
 ·have q:=q.untried
  cases f with
  | next=>exact wpAny_execs_nil q
  | ret v=>exact q
  | brk=>exact q
  | cont=>exact q
 ·obtain ⟨σ1,H1,s0,I0,a,C,a0,B,H',rfl,os,gens,fl,hs0,ht,un,hok,⟨c,rfl,mo⟩,k⟩:=z
  have fA:X.A.frames = some (X.env :: X.outer):=by rw [← hst]; exact I.ok.frames
  rw [hst] at fl
  refine wpAny_looks_onW fA hfr fl fun h4 held4 up4=>?_
  refine wpAny_landsW held4 fun h5 fl5 up5=>?_
  have up15:=up4.trans up5
  have frO:∀ b ∈ frs X.stack,∃ o,s1.heap.get? b = some o∧∀ vs,o.data ≠ .fields vs:=fun b hb=>(fl.2.2.1.mem (by rw [← hst]; exact hb)).2
  have un5:=fly_un hs0 fl.1 fl5.1 frO un up15
  have hok5:=fly_ok ht fl.1 fl5.1 hok
  have I5:Inv X pins σ1 H' { s1 with heap:=h5 }:=I0.call' (s':={ s1 with heap:=h5 }) os un5 hok5 gens (fun b z=>absurd z (by simp))
  refine wpAny_handleBy_cons (codeAny_handlers_test (ld_glob (I5.inExc a) hg hm ?_ hd)) (by intro q; cases q)
  obtain ⟨oe,eoe,hoe⟩:=fl5.there
  obtain ⟨k1,k2⟩:=hM I.ok.mod.kin c mo
  have mo5:Catches h5 CH c:=by
   refine ⟨?_,?_⟩
   ·obtain ⟨nm,q,N,bs,bm,hdct,sn,sub,ab,col,dd,j0,j1,j2,j3,j5,newId,hC,hcC⟩:=k1
    exact ⟨nm,q,N,bs,bm,hdct,sn,sub,ab,col,dd,j0,j1,j2,j3,j5,newId,I5.bk _ _ hC,hcC⟩
   ·obtain ⟨nm,q,N,bs,bm,hdct,sn,sub,ab,col,dd,j0,j1,j2,j3,j5,newId,hC,hcC⟩:=k2
    exact ⟨nm,q,N,bs,bm,hdct,sn,sub,ab,col,dd,j0,j1,j2,j3,j5,newId,I5.bk _ _ hC,hcC⟩
  refine matches_own mo5 eoe hoe (codeAny_handlers_suite_as ?_)
  refine lands_againW fl5 fun h7 fl7 up7=>?_
  have un7:=fly_un hs0 fl.1 fl7.1 frO un (up15.trans up7)
  have hok7:=fly_ok ht fl.1 fl7.1 hok
  have na:H' a = none:=by
   cases e:H' a with
   | none=>rfl
   | some y=>obtain ⟨o,eo⟩:=ht a y e; rw [fl.2.1] at eo; cases eo
  have nB:∀ b y,H' b = some y→b ≠ a:=fun b y e z=>by rw [z,na] at e; cases e
  obtain ⟨o7,v7,T7,oT7,t7,e7,⟨c7,_⟩,d7,_⟩:=fl7.2.2.2
  have olda:s0.heap.get? a = none:=by
   cases e:s0.heap.get? a with
   | none=>rfl
   | some o =>
    by_cases hb:a ∈ frs X.stack
    ·obtain ⟨o',eo',nf⟩:=(fl7.2.2.1.mem (show a ∈ frs (X.env :: X.outer) by rw [← hst]; exact hb)).2
     rw [e7] at eo'; cases eo'
     exact absurd d7 (nf v7)
    ·obtain ⟨o',eo'⟩:=hs0 a o e hb
     rw [fl.2.1] at eo'; cases eo'
  have un8:Un (frs X.stack) [] H1 (upd H' a (excH a (.ref c))) s0.heap h7:=⟨un7.keep,un7.slot,fun b o e n hx=>by
    rw [upd_ne (fun z=>by rw [z,olda] at e; cases e)]; exact un7.free b o e n hx,un7.there,
   fun b xs e=>by rw [upd_ne (nB b _ (un7.tups b xs e))]; exact un7.tups b xs e,fun b o u e=>by rw [upd_ne (nB b _ (un7.frzs b o u e))]; exact un7.frzs b o u e,
   fun b ps e=>by
    obtain ⟨more,em⟩:=un7.tbls b ps e
    exact ⟨more,by rw [upd_ne (nB b _ em)]; exact em⟩⟩
  have hok8:HOk X.prog X.w (upd H' a (excH a (.ref c))) h7:=fun b y e=>by
   by_cases hb:b = a
   ·subst hb
    rw [upd_same] at e
    cases e
    exact ⟨⟨o7,v7,e7,c7,d7⟩,⟨o7,e7⟩,fun h1 h2 ⟨o,vs,p1,p2,p3⟩ kk=>⟨o,vs,kk o p1,p2,p3⟩⟩
   ·rw [upd_ne hb] at e
    exact (hok7 b y e).stay (fun _ _ _ z=>z) (fun d z=>by rw [upd_ne (nB d _ z)]; exact z) fun d xs z=>by rw [upd_ne (nB d _ z)]; exact z
  have I8:Inv X pins σ1 (upd H' a (excH a (.ref c))) { s1 with heap:=h7 }:=I0.call' (s':={ s1 with heap:=h7 }) os un8 hok8 gens (fun b z=>absurd z (by simp))
  refine store_ok (X:=X.inExc a) (I8.inExc a) hN hi (Or.inl hx) (v:=.ref a) rfl (fun s9 I9=>?_) (.inr hx)
  refine wpAny_mono (hs a pins s9 _ _ _ I9 (k σ1 a I0.len na)) (fun fw s10 q=>?_) fun _ _ z=>z.elim
  cases fw with
  | next=>obtain ⟨_,_,_,q⟩:=q; exact q.elim
  | brk=>obtain ⟨_,_,_,q⟩:=q; exact q.elim
  | cont=>obtain ⟨_,_,_,q⟩:=q; exact q.elim
  | ret u =>
   obtain ⟨v,σ',H3,I10,rv,q⟩:=q
   have I11:=I10.outExc I.ok.hd
   obtain ⟨m,hn,_⟩:=id I11.loc
   exact wpAny_nameGoes (show X.env.kindOf n = some .local from hx) hn (by rw [I.ok.kind]; rfl) fun h' m' hn' sb=>⟨v,_,H3,I11.relocal hn' sb,rv,q⟩
end L2
set_option maxRecDepth 100000
namespace PySem.W
open PySem PySem.Spec PySem.Calls PyProof.Rows
structure ExcLooks (K:Frag) (c:Addr):Prop where
 ga:findIn K (.ref c) "__getattribute__" = some (some (.builtin "BaseException.__getattribute__"))
 no:findIn K (.ref c) "__getattr__" = some none
 cl:findIn K (.ref c) "__class__" = some (some (.builtin "object.__class__"))
 ba:subIn K (.ref c) (.type "BaseException") = some true
 ob:subIn K (.ref c) (.type "object") = some true
section
variable {prog:Program} {w:World} {A:Around} {E:Value→Shared→Prop} {h:Heap} {g:Array GenState} {d:Drawn} {t:Nat} {os:OsState} {a C:Addr} {o:Obj} {K:Frag}
theorem xcls_get {R:Result→Shared→Prop} (X:K.In h) (L:ExcLooks K C) (hx:h.get? a = some o) (hc:o.cls = .ref C) (hq:R (.ok (.ret (.ref C))) ⟨h,g,d,t,os⟩) :
  codeAny (model prog w) A (.call (.builtin "getset_descriptor.__get__") ⟨[.builtin "object.__class__",.ref a,.ref C],[]⟩) R ⟨h,g,d,t,os⟩:=by
 have hT5:(⟨h,g,d,t,os⟩:Shared).TypeIs (.builtin "object.__class__") "getset_descriptor":=F.typeOf_object_class
 have LO:=looks_subIn (M:=model prog w) X L.ob
 have e:isSubtype (.ref C) (.type (".".intercalate ("object.__class__".cutAt '.').dropLast)) = isSubtype (.ref C) (.type "object"):=by rw [F.owner_object_class]
 refine codeAny_call_builtin F.slot_gs_get.plain F.entry_gs_get (F.slot_gs_get.check _ _ _ _ _ _ _ _ hT5 (F.args_gs_get _ _ _) ?_)
 repeat (any_goals (first | assumption | (with_reducible refine wpAny_loadPart_at hx ?_; rw [hc]) | (rw [e]; with_reducible refine LO.at ?_) | wp_step))
 refine ⟨Code.quiet_builtin _ (by decide +kernel),codeAny_builtin F.entry_object_class ?_⟩
 repeat (any_goals (first | assumption | (with_reducible refine wpAny_loadPart_at hx ?_; rw [hc]) | wp_step))
theorem xcls_check {M:Model} {nameV:Value} {Q:Unit→Shared→Prop} (X:K.In h) (L:ExcLooks K C) (hx:h.get? a = some o) (hc:o.cls = .ref C) (hq:Q () ⟨h,g,d,t,os⟩) :
  wpAny M A (checkBuiltinCall "BaseException.__getattribute__" ⟨[.ref a,nameV],[]⟩) Q E ⟨h,g,d,t,os⟩:=by
 have hk:builtinKind "BaseException.__getattribute__" = some .slot:=by decide +kernel
 have hsplit:splitId "BaseException.__getattribute__" = some ("BaseException","__getattribute__"):=by decide +kernel
 have LB:=looks_subIn (M:=M) X L.ba
 have ha:=F.args_bexc_ga (.ref a) nameV
 simp only [checkBuiltinCall,hk,hsplit]
 refine wpAny_bind ?_
 ·unfold isInstance
  repeat (first | (with_reducible refine wpAny_loadPart_at hx ?_; rw [hc]) | with_reducible refine LB.at ?_ | wp_step)
  exact hq
theorem xcls_entry {tk:Tok} {Q:Fin→Shared→Prop} (X:K.In h) (L:ExcLooks K C) (hx:h.get? a = some o) (hc:o.cls = .ref C) (hq:Q (.done (.ret (.ref C))) ⟨h,g,d,t,os⟩) :
  wpAny (model prog w) A (Builtin.«object.__getattribute__» ⟨[.ref a,.str "__class__" tk],[]⟩) Q E ⟨h,g,d,t,os⟩:=by
 have hT5:(⟨h,g,d,t,os⟩:Shared).TypeIs (.builtin "object.__class__") "getset_descriptor":=F.typeOf_object_class
 have f5:=F.typeOf_object_class
 have f6:=F.slot_gs_get.lookup
 have f7:=F.slot_gs_set.lookup
 have LC:=looks_findIn (M:=model prog w) X L.cl
 repeat (any_goals (first | assumption | (with_reducible refine wpAny_loadPart_at hx ?_; rw [hc]) | with_reducible refine LC.at ?_ | wp_step))
 refine xcls_get X L hx hc ?_
 repeat (any_goals (first | assumption | wp_step))
theorem xcls_call {tk:Tok} {R:Result→Shared→Prop} (X:K.In h) (L:ExcLooks K C) (hx:h.get? a = some o) (hc:o.cls = .ref C) (hq:R (.ok (.ret (.ref C))) ⟨h,g,d,t,os⟩) :
  codeAny (model prog w) A (.call (.builtin "BaseException.__getattribute__") ⟨[.ref a,.str "__class__" tk],[]⟩) R ⟨h,g,d,t,os⟩ :=
 codeAny_call_builtin F.excAttr_ValueError.ga.plain F.entry_bexc_ga (xcls_check X L hx hc (xcls_entry X L hx hc hq))
theorem xcls_by {tk:Tok} {Q:Value→Shared→Prop} (X:K.In h) (L:ExcLooks K C) (hx:h.get? a = some o) (hc:o.cls = .ref C) (hq:Q (.ref C) ⟨h,g,d,t,os⟩) :
  wpAny (model prog w) A (getAttrBy (.ref a) (.str "__class__" tk) false) Q E ⟨h,g,d,t,os⟩:=by
 have f3:=F.excAttr_ValueError.ga.bind (.ref a)
 have hx2:(Value.builtin "BaseException.__getattribute__" == Value.builtin "object.__getattribute__") = false:=by decide +kernel
 have hx1:(onTheHeap (Value.ref C) && Value.builtin "BaseException.__getattribute__" == Value.builtin "object.__getattribute__") = false:=by rw [hx2]; rfl
 have LG:=looks_findIn (M:=model prog w) X L.ga
 have LN:=looks_findIn (M:=model prog w) X L.no
 repeat (any_goals (first | assumption | (with_reducible refine wpAny_loadPart_at hx ?_; rw [hc]) | with_reducible refine LG.at ?_ | with_reducible refine LN.at ?_ | wp_step))
 refine xcls_call X L hx hc ?_
 repeat (any_goals (first | assumption | wp_step))
theorem xcls_attr {Q:Option Value→Shared→Prop} (X:K.In h) (L:ExcLooks K C) (hx:h.get? a = some o) (hc:o.cls = .ref C) (hq:Q (some (.ref C)) ⟨h,g,d,t+1,os⟩):wpAny (model prog w) A (getAttr? (.ref a) "__class__") Q E ⟨h,g,d,t,os⟩:=by
 unfold getAttr? getAttrBy?
 repeat (any_goals (first | assumption | with_reducible apply xcls_by X L hx hc | wp_step))
theorem kitx_exc {cd:ClassData} {c0:Value} {dd:Option Addr} {sl:Array (Option Value)} (hl:K.lookup C = some ⟨c0,dd,.cls cd,sl⟩) (L:ExcLooks K C):KitX K (.ref a) (.ref C) (fun h=>∃ o,h.get? a = some o∧o.cls = .ref C) where
 ty:=fun M h X ⟨o,ho,hc⟩=>by
  have:=(Looks.ld (M:=M) (part:=none) ho).andThen (f:=fun o=>pure o.cls) (b:=o.cls) Looks.now
  rw [hc] at this
  exact this
 it:=fun M h X _=>by
  intro A' Q' E' s' k q
  unfold isType loadHead
  exact wpAny_bind (wpAny_loadPart (k _ _ (X _ _ hl)) (wpAny_pure q))
 ne:=fun h tp dd' its n sl' X ht=>Bool.eq_false_iff.mpr fun q=>by
  have e:=beq_iff_eq.mp q
  cases e
  have:=X _ _ hl
  rw [ht] at this
  cases this
 ca:=fun {_ _ _ _ _ s} X ⟨o,ho,hc⟩ k=>by
  obtain ⟨h,g,d,t,os⟩:=s
  exact xcls_attr X L ho hc k
end
end PySem.W
namespace L2
open PySem PySem.Spec PyProof.Rows PySem.W
section
variable {X:Cx}
def clsV:V→Option Value
 | .ref D=>some (.ref D)
 | .ty T=>some (.type T)
 | _=>none
theorem call_isiX {c:Addr} {cd:ClassData} {c0:Value} {dd:Option Addr} {sl:Array (Option Value)} (hl:X.K.lookup c = some ⟨c0,dd,.cls cd,sl⟩) (L:ExcLooks X.K c) :
  CallR X (.builtin "isinstance") (fun xs H Q=>∃ a v C b,xs = [.ref a,v]∧clsV v = some C∧H a = some (excH a (.ref c))∧kitOne X.K (.ref c) C = some b∧Q (.bl b) H):=by
 intro pins s σ H xs us Q I rv h
 obtain ⟨a,v,C,b,rfl,rC,ha,hk,k⟩:=h
 obtain ⟨⟨o,vs,e1,e2,e3⟩,_⟩:=I.hok a _ ha
 cases rv with
 | cons r1 rv =>
  cases rv with
  | cons r2 rv =>
   cases rv
   obtain rfl:=r1
   have done:∀ tk,EP X pins σ Q (.bool b) { s with toks:=tk }:=fun tk=>⟨.bl b,H,I.tok tk,rfl,k⟩
   cases v with
   | ref D =>
    cases rC
    obtain rfl:=r2
    exact kia_one (K:=X.K) (kitx_exc hl L) I.kIn ⟨o,e1,e2⟩ hk (fun e=>nomatch e) done
   | ty T =>
    cases rC
    obtain rfl:=r2
    exact kia_one (K:=X.K) (kitx_exc hl L) I.kIn ⟨o,e1,e2⟩ hk (fun e=>nomatch e) done
   | _=>cases rC
end
end L2
set_option maxRecDepth 100000
namespace L2
open PySem PySem.Spec PyProof.Rows PySem.W
def isTrueV:Value→Bool
 | .bool b=>b
 | _=>false
theorem vals_bools:∀ {bs:List Bool} {us:List Value},Vals (bs.map V.bl) us→us = bs.map Value.bool
 | [],_,.nil=>rfl
 | b :: bs,_,.cons r t=>by
  obtain rfl:=r
  rw [vals_bools t]; rfl
section
variable {X:Cx}
theorem mt_countT:MtR X "list.count" (fun x xs H Q=>∃ (p:Addr) (bs:List Bool),x = .ref p∧xs = [.bl true]∧SqL X.K H p (bs.map V.bl)∧Q (.int (bs.countP id:Nat)) H):=by
 intro pins s σ H x vs v us Q I rx rv h
 obtain ⟨b,bs,rfl,rfl,hb,k⟩:=h
 cases rx
 obtain ⟨u,rfl,ru⟩:=rv.one
 obtain rfl:=ru
 obtain ⟨its,r2,l2,_⟩:=I.list hb
 obtain rfl:=vals_bools r2
 obtain ⟨⟨cls,dd,data,sl⟩,ho,hc,n,hd⟩:=l2.isList
 simp only at hc hd
 subst hc hd
 refine call_meets F.slot_list_count ⟨_,ho,rfl⟩ F.entry_list_count (F.args_list_count_2 _ _) (SeqAt.list_countAt b (bs.map Value.bool).toArray n dd sl (.bool true) isTrueV) ⟨ho,fun y hy=>?_,⟨.int _,H,I.tok _,⟨_,rfl⟩,?_⟩⟩
 ·obtain ⟨c,_,rfl⟩:=List.mem_map.mp (by simpa using hy:y ∈ bs.map Value.bool)
  have:=eqAt_V (A:=X.A.in1) (s:=s) (y:=.bl c) (x:=.bl true) (u:=.bool c) (v:=.bool true) rfl rfl rfl rfl
  have e:eqV (.bl c) (.bl true) = isTrueV (.bool c):=by cases c <;> rfl
  rw [e] at this
  exact this
 ·have e:(bs.map Value.bool).toArray.toList.countP isTrueV = bs.countP id:=by
   rw [show (bs.map Value.bool).toArray.toList = bs.map Value.bool from rfl,List.countP_map]; rfl
  rw [e]; exact k
theorem mt_indexT:MtR X "list.index" (fun x xs H Q=>∃ (p:Addr) (bs:List Bool) (j:Nat),x = .ref p∧xs = [.bl true]∧SqL X.K H p (bs.map V.bl)∧bs[j]? = some true∧(∀ i,i < j→bs[i]? = some false)∧bs.length≤1000∧Q (.int (j:Nat)) H):=by
 intro pins s σ H x vs v us Q I rx rv h
 obtain ⟨b,bs,j,rfl,rfl,hb,hj,hno,hl,k⟩:=h
 cases rx
 obtain ⟨u,rfl,ru⟩:=rv.one
 obtain rfl:=ru
 obtain ⟨its,r2,l2,_⟩:=I.list hb
 obtain rfl:=vals_bools r2
 have hjl:=(List.getElem?_eq_some_iff.mp hj).1
 obtain ⟨⟨cls,dd,data,sl⟩,ho,hc,n,hd⟩:=l2.isList
 simp only at hc hd
 subst hc hd
 refine call_meets F.slot_list_index ⟨_,ho,rfl⟩ F.entry_list_index (F.args_list_index_2 _ _) (SeqAt.list_indexAt b (bs.map Value.bool).toArray n dd sl (.bool true) isTrueV j (by simpa using hjl) (by omega) ?_ ?_) ⟨ho,fun y hy=>?_,⟨.int j,H,I.tok _,⟨_,rfl⟩,k⟩⟩
 ·simp only [List.getElem_toArray,List.getElem_map]
  exact (List.getElem?_eq_some_iff.mp hj).2
 ·intro m hm hmj
  have hm':m < bs.length:=by simpa using hm
  simp only [List.getElem_toArray,List.getElem_map]
  exact (List.getElem?_eq_some_iff.mp (hno m hmj)).2
 ·obtain ⟨c,_,rfl⟩:=List.mem_map.mp (by simpa using hy:y ∈ bs.map Value.bool)
  have:=eqAt_V (A:=X.A.in1) (s:=s) (y:=.bl c) (x:=.bl true) (u:=.bool c) (v:=.bool true) rfl rfl rfl rfl
  have e:eqV (.bl c) (.bl true) = isTrueV (.bool c):=by cases c <;> rfl
  rw [e] at this
  exact this
theorem readsAll_ints {h:Heap}:∀ {ns:List Int} {us:List Value},Vals (ns.map V.int) us→ReadsAll h us (ns.map PyData.int) []
 | [],_,.nil=>.nil
 | n :: ns,_,.cons r t=>by
  obtain ⟨u,rfl⟩:=r
  exact .cons (.int n u) (readsAll_ints t)
theorem int_len {i:Int} (h:i.natAbs < 2 ^ 81):(Str.ofString (toString i)).length≤82:=by
 unfold Str.length
 rw [← Array.length_toList,signs_ofString,List.length_map]
 cases i with
 | ofNat m =>
  have:(Nat.repr m).length≤81:=nat_repr_length_le (by decide) h
  show (Nat.repr m).toList.length≤82
  rw [String.length_toList]; omega
 | negSucc m =>
  have:(Nat.repr (m+1)).length≤81:=nat_repr_length_le (by decide) h
  show ("-"++Nat.repr (m+1)).toList.length≤82
  rw [String.toList_append,List.length_append,String.length_toList,String.length_toList]
  show 1+_≤82
  omega
theorem ints_show {ns:List Int} (h:∀ n ∈ ns,n.natAbs < 2 ^ 81):PyData.showableAll (ns.map PyData.int) = true∧PyData.hasDictAll (ns.map PyData.int) = false∧((PyData.shownAll (ns.map PyData.int)).map (·.length)).sum≤82 * ns.length∧(PyData.shownAll (ns.map PyData.int)).length = ns.length∧PyData.depthAll (ns.map PyData.int) = 0:=by
 induction ns with
 | nil=>exact ⟨rfl,rfl,Nat.le_refl _,rfl,rfl⟩
 | cons n ns ih =>
  obtain ⟨a,b,c,d,e⟩:=ih fun m hm=>h m (List.mem_cons_of_mem _ hm)
  have hn:=h n (List.mem_cons_self ..)
  have l:=int_len hn
  refine ⟨?_,?_,?_,?_,?_⟩
  ·show (decide (n.natAbs.log2 < 1920) && PyData.showableAll (ns.map PyData.int)) = true
   rw [a,Bool.and_true,decide_eq_true_eq]
   rcases Nat.eq_zero_or_pos n.natAbs with z | z
   ·rw [z]; decide
   ·have:=(Nat.log2_lt (by omega)).mpr hn
    omega
  ·show (PyData.hasDict (.int n) || PyData.hasDictAll (ns.map PyData.int)) = false
   rw [b]; rfl
  ·show (Str.ofString (toString n)).length+((PyData.shownAll (ns.map PyData.int)).map (·.length)).sum≤82 * (ns.length+1)
   omega
  ·show (PyData.shownAll (ns.map PyData.int)).length+1 = ns.length+1
   omega
  ·show max (PyData.depth (.int n)) (PyData.depthAll (ns.map PyData.int)) = 0
   rw [e]; rfl
def tFmtT (te:TE):TE:=fun σ H Q=>te σ H fun v H1=>∃ (a:Addr) (ns:List Int),v = .ref a∧H1 a = some (.tup (ns.map V.int))∧ns.length≤3∧(∀ n ∈ ns,n.natAbs < 2 ^ 81)∧∀ z:Str,z.length≤300→Q (.str z) H1
theorem pe_fmtT {e:Expr} {te:TE} {pos:Pos} (hg:X.A.guards = some []) (hu:X.A.units+16 < cLine) (he:PE X e te):PE X (.FormattedValue e (-1) none pos) (tFmtT te):=by
 intro pins s σ H Q I h
 refine FormattedValue_plain (thn (he pins s σ H _ I h) fun v s1 ⟨x,H1,I1,r1,q1⟩=>?_)
 obtain ⟨a,ns,rfl,ha,ln,hb,q⟩:=q1
 obtain rfl:=r1
 obtain ⟨_,its,rv,o,eo,ec,n,ed⟩:=I1.hok a _ ha
 obtain ⟨s1',s2,s3,s4,s5⟩:=ints_show hb
 have rd:Reads s1.heap (.ref a) (.tuple (ns.map PyData.int)) []:=.tuple eo ec ed (by simpa using readsAll_ints rv)
 have ll:(PyData.shown (.tuple (ns.map PyData.int))).length≤300:=by
  show (tupleText (PyData.shownAll (ns.map PyData.int))).length≤300
  have:=tupleText_len_le (PyData.shownAll (ns.map PyData.int))
  rw [s4] at this
  omega
 refine formatField_of_reads rd s1' (fun z=>by rw [show PyData.hasDict (.tuple (ns.map PyData.int)) = PyData.hasDictAll (ns.map PyData.int) from rfl,s2] at z; cases z) hg ?_ (fun _ _ z=>z) (fun h' u tk hk=>⟨.str _,H1,I1.kept hk,⟨u,rfl⟩,q _ ll⟩) (Nat.le_of_lt (small1000 (by omega)))
 have:PyData.depth (.tuple (ns.map PyData.int))≤2:=by
  show PyData.depthAll (ns.map PyData.int)+1≤2
  omega
 omega
end
section
variable {P:Program} {w:World} {K:PySem.W.Frag} {mg:Str→Option Value} {base:Heap}
theorem Fun.okE {x qual:Str} {st:Stmt} {f:Addr} {fd:FuncData} {N ps:List Str} {k:Nat} {sp:Sp} (F:Fun K x qual st f fd) (S:FnScope N ps (defScope st)) (len:∀ vs H Q E,sp vs H Q E→vs.length = ps.length)
  (hbody:∀ (cdv:Value) (A:Around) (outer:List Env) (s:Shared) (H:Hp) (vs:List V) (Q:VK) (E:XK),Room k (A.deeper (envOfC qual (defScope st) s.heap.objs.size f cdv))→sp vs H Q E →
   ∃ t,PSs (cxOf (CXE P w) P w K mg base N qual (defScope st) f cdv A outer s H E) (defBody st) t∧t { nx:=fun _ H'=>Q .non H',rt:=Q } (start N vs) H):FnOk P w K mg base (CXE P w) (k+1) f fd ps sp:=by
 obtain ⟨oc,od,kV,doc,pm,an,cdv,ct,osl,rfl,lk,hcd⟩:=F.ex
 exact fn_of lk hcd S len fun A outer s H vs Q E hr hsp=>hbody cdv A outer s H vs Q E hr hsp
structure RoomH (k:Nat) (A:Around):Prop where
 dp:A.depth+3 * k+5 < recursionLimit
 un:A.units+16 * k+200 < cLine
theorem Room.h {k:Nat} {A:Around} (r:Room k A):RoomH k A:=⟨r.dp,r.un⟩
theorem RoomH.mark {k:Nat} {A:Around} (r:RoomH k A) (v:Option Value):RoomH k (A.mark v):=⟨r.dp,r.un⟩
theorem RoomH.deeper {k:Nat} {A:Around} (r:RoomH (k+1) A) (env:Env):RoomH k (A.deeper env) :=
 ⟨by have:=r.dp; show A.depth+1+3 * k+5 < _; omega,by have:=r.un; show A.units+3+16 * k+200 < _; omega⟩
structure FnOkH (P:Program) (w:World) (K:PySem.W.Frag) (mg:Str→Option Value) (base:Heap) (k:Nat) (f:Addr) (fd:FuncData) (ps:List Str) (sp:Sp):Prop where
 len:∀ vs H Q E,sp vs H Q E→vs.length = ps.length
 run:∀ (A:Around) (outer:List Env) (s:Shared) (H:Hp) (args:Args) (us:List Value) (vs:List V) (Q:VK) (E:XK),RoomH k A→Env0 P w K mg base A outer s H→BindsTo s fd args (ps.zip us)→Vals vs us→sp vs H Q E →
  codeAny (model P w) A (.call (.ref f) args) (CR CX0 outer P w H s Q E) s
abbrev cxH (P:Program) (w:World) (K:PySem.W.Frag) (mg:Str→Option Value) (base:Heap) (N:List Str) (qual:Str) (scope:Scope) (f:Addr) (cd:Value) (A:Around) (outer:List Env) (s:Shared) (H:Hp) (E:XK):Cx :=
 { cxOf CX0 P w K mg base N qual scope f cd A outer s H E with calm:=false,xe:=fun _ _=>False }
theorem Fun.okH {x qual:Str} {st:Stmt} {f:Addr} {fd:FuncData} {N ps:List Str} {k:Nat} {sp:Sp} (F:Fun K x qual st f fd) (S:FnScope N ps (defScope st)) (len:∀ vs H Q E,sp vs H Q E→vs.length = ps.length)
  (hbody:∀ (cdv:Value) (A:Around) (outer:List Env) (s:Shared) (H:Hp) (vs:List V) (Q:VK) (E:XK),RoomH k (A.deeper (envOfC qual (defScope st) s.heap.objs.size f cdv))→sp vs H Q E →
   ∃ t,PSs (cxH P w K mg base N qual (defScope st) f cdv A outer s H E) (defBody st) t∧t { nx:=fun _ H'=>Q .non H',rt:=Q } (start N vs) H):FnOkH P w K mg base (k+1) f fd ps sp:=by
 obtain ⟨oc,od,kV,doc,pm,an,cdv,ct,osl,rfl,lk,hcd⟩:=F.ex
 refine ⟨len,fun A outer s H args us vs Q E hr e0 hb r hsp=>?_⟩
 have hl:=len _ _ _ _ hsp
 have KX:K.In s.heap:=e0.mod.kin.keeps fun b o e=>(e0.bs b o e).1
 have lim:s.heap.NoLimit:=e0.mod.nolimit.keeps fun b o e=>(e0.bs b o e).1
 have hkind:∀ y ∈ ps.zip us,(defScope st).names.lookup y.1 = some .local∨((defScope st).names.lookup y.1 = some .cell∧((cellsFrom (s.heap.objs.size+1) (defScope st).names []).lookup y.1).isSome = true):=fun ⟨n,v⟩ hy=>by
  rcases S.par n (List.of_mem_zip hy).1 with q | q
  ·exact .inl q
  ·exact .inr ⟨q,PySem.W.cellsFrom_some _ _ _ (.inl q)⟩
 refine codeAny_call_function (by have:=hr.dp; omega) (KX _ _ lk) rfl S.co S.gen rfl (PySem.W.codeRec_of KX hcd) (hb _ _ _ _ ?_)
 refine wpAny_newFunctionEnv_cells S.kind hkind fun env he s1 x=>?_
 subst he
 refine ⟨lim.keeps x.toInCall.keep,codeAny_func ?_⟩
 obtain ⟨t,ht,hq⟩:=hbody cdv A outer s H vs Q E (hr.deeper _) hsp
 have I0:Inv (cxOf CX0 P w K mg base N qual (defScope st) f cdv { A with handled:=none } outer s H E) [] (start N vs) H s1:=inv_start S rfl ⟨e0.frames,e0.mod,e0.bs,e0.bsz,e0.funs,e0.frf,e0.hok,e0.bare⟩ hl r x
 have I:Inv (cxH P w K mg base N qual (defScope st) f cdv A outer s H E) [] (start N vs) H s1 :=
  ⟨⟨I0.ok.mod,I0.ok.kind,I0.ok.glob,I0.ok.blt,I0.ok.above,I0.ok.inj,I0.ok.has,I0.ok.cab,(fun z=>by cases z),I0.ok.frames,I0.ok.stk,I0.ok.exf,I0.ok.bs,I0.ok.bsz,I0.ok.noex,I0.ok.exfs,I0.ok.funs,I0.ok.frf⟩,I0.os,I0.bare,I0.base,I0.loc,I0.cell,I0.free,I0.freeC,I0.pin,I0.hok,I0.len⟩
 refine wpAny_mono (ht [] s1 (start N vs) H _ I hq) (fun fl s' hs=>?_) fun e s' hs=>hs.elim
 have fin:∀ {σ':St} {H':Hp} {v:V} {u:Value},Inv (cxH P w K mg base N qual (defScope st) f cdv A outer s H E) [] σ' H' s'→RelV v u→Q v H'→CE outer P w H s Q u s' :=
  fun {σ' H' v u} J rv q=>⟨v,H',J.os,J.bare,J.base,J.hok,rv,q⟩
 cases fl with
 | ret u =>
  obtain ⟨v,σ',H',J,rv,q⟩:=hs
  exact fin J rv q
 | next =>
  obtain ⟨σ',H',J,q⟩:=hs
  exact fin (v:=V.non) (u:=Value.none) J rfl q
 | brk =>
  obtain ⟨_,_,_,q⟩:=hs
  exact False.elim q
 | cont =>
  obtain ⟨_,_,_,q⟩:=hs
  exact False.elim q
end
theorem pe_callH {X:Cx} {k:Nat} {f:Addr} {fd:FuncData} {ps:List Str} {sp:Sp} {x:Str} {e:Expr} {es:List Expr} {t:TA} {p pos:Pos} (F:FnOkH X.prog X.w X.K X.mg X.base k f fd ps sp) (hr:RoomH k X.A) (hg:Gl X x) (hm:X.mg x = some (.ref f)) (hk:PySem.W.keepIn X.K (.ref f) = true) (hb:Binds X.K fd ps [])
  (ha:PA X (e :: es) t) (hdb:(x == ("__debug__":Str)) = false:=by decide) (he:starEach (e :: es) X.env = (false,eval e X.env) :: starEach es X.env:=by rfl) (hpl:(backTo pos (starEach es X.env)).any (·.1) = false:=by rfl) :
  PE X (.Call (.Name x p) (e :: es) [] pos) (tCall sp [] E0 t):=by
 intro pins s σ H Q I h
 refine wpAny_Call_Name_kw (ld_glob I hg hm ?_ hdb)
 refine PySem.W.callWith_K (h₀:=X.base) I.ok.mod.kin hk (thn (ha pos pins s σ H _ I h) fun us s1 ⟨vs,H1,I1,r,q⟩=>⟨I1.kIn,?_⟩) he hpl
 have q:sp (vs++[]) H1 Q E0:=q
 rw [List.append_nil] at q
 have hl:(us++[]).length = ps.length:=by rw [List.append_nil,← r.length]; exact F.len _ _ _ _ q
 have hb1:=hb s1 us I1.kIn hl
 rw [List.append_nil] at hb1
 refine wpAny_call (codeAny_mono (F.run X.A X.stack s1 H1 ⟨us,[]⟩ us vs Q E0 hr I1.env0 hb1 r q) fun r s' hq=>?_)
 cases r with
 | error e=>exact hq.elim
 | ok fl =>
  cases fl with
  | ret u=>exact I1.after hq
  | next=>exact False.elim hq
  | brk=>exact False.elim hq
  | cont=>exact False.elim hq
end L2
set_option maxRecDepth 100000
namespace L2
open PySem PySem.Spec PyProof.Rows PySem.W
abbrev bmV:List Value:=[.type "ValueError",.type "Exception",.type "BaseException",.type "object"]
def excSeen (K:Frag) (CH c:Addr):Bool:=excIn K c bmV "ValueError.__new__" && excIn K CH bmV "ValueError.__new__" && (subIn K (.ref c) (.ref CH) == some true) && (findIn K (.ref c) "__getattribute__" == some (some (.builtin "BaseException.__getattribute__"))) &&
 (findIn K (.ref c) "__getattr__" == some none) && (findIn K (.ref c) "__class__" == some (some (.builtin "object.__class__"))) && (subIn K (.ref c) (.type "BaseException") == some true) && (subIn K (.ref c) (.type "object") == some true) && (kitOne K (.ref c) (.type "ValueError") == some true)
def kindSeen (K:Frag) (c:Addr) (ds:List Addr) (bs:List Bool):Bool:=(ds.map fun d=>kitOne K (.ref c) (.ref d)) == bs.map some
theorem exc_obj {K:Frag} {h:Heap} {C:Addr} {bmB:List Value} {newId:String} (X:K.In h) (q:excIn K C bmB newId = true):∃ cd:ClassData,(∃ dd sl,K.lookup C = some ⟨.type "type",dd,.cls cd,sl⟩) ∧
  ∃ bm N nm q bs hdct sn sub ab col dd k0 k1 k2 k3 k5 mN,cd.mro = .ref C :: bm∧h.get? C = some (excClassObj nm q C N bs bm hdct sn sub ab col dd k0 k1 k2 k3 k5 newId)∧h.Ns N mN∧mN "__init__" = none∧OwnTail h bmB bm:=by
 unfold excIn at q
 split at q
 ·rename_i dd cd sl ho
  split at q
  ·rename_i C' bm k0 k1 k2 k3 n k5 hm hs
   simp only [Bool.and_eq_true,beq_iff_eq,Bool.not_eq_true'] at q
   obtain ⟨⟨⟨⟨⟨rfl,rfl⟩,hdel⟩,ht⟩,hok⟩,hni⟩:=q
   refine ⟨cd,⟨dd,sl,ho⟩,?_⟩
   obtain ⟨nm,bs,mro,ns,qn,hd,sn,sub,ab,col,del⟩:=cd
   dsimp only at hm hdel hok hni
   subst hm hdel
   have hsl:sl = #[k0,k1,k2,k3,some (.builtin n),k5]:=by
    obtain ⟨l⟩:=sl
    simp only at hs
    rw [hs]
   subst hsl
   exact ⟨bm,ns,nm,qn,bs,hd,sn,sub,ab,col,dd,k0,k1,k2,k3,k5,_,rfl,X _ _ ho,.of_isNs (isNs_of_in X hok),nsMap_none_of_in X hok hni,tail_of_in X ht⟩
  ·cases q
 ·cases q
theorem own_exc {K:Frag} {h:Heap} {mg:Str→Option Value} {x:Str} {C:Addr} {bmB:List Value} {newId:String} (X:K.In h) (m:mg x = some (.ref C)) (q:excIn K C bmB newId = true):OwnCls x C bmB newId mg h:=by
 obtain ⟨_,_,bm,N,nm,q,bs,hdct,sn,sub,ab,col,dd,k0,k1,k2,k3,k5,mN,_,r⟩:=exc_obj X q
 exact ⟨m,bm,N,nm,q,bs,hdct,sn,sub,ab,col,dd,k0,k1,k2,k3,k5,mN,r⟩
structure ExcOk (K:Frag) (CH c:Addr):Prop where
 ex:excIn K c bmV "ValueError.__new__" = true
 exH:excIn K CH bmV "ValueError.__new__" = true
 sub:subIn K (.ref c) (.ref CH) = some true
 lk:ExcLooks K c
 val:kitOne K (.ref c) (.type "ValueError") = some true
theorem ExcOk.of {K:Frag} {CH c:Addr} (h:excSeen K CH c = true):ExcOk K CH c:=by
 unfold excSeen at h
 simp only [Bool.and_eq_true,beq_iff_eq] at h
 obtain ⟨⟨⟨⟨⟨⟨⟨⟨a,b⟩,c⟩,d⟩,e⟩,f⟩,g⟩,i⟩,j⟩:=h
 exact ⟨a,b,c,⟨d,e,f,g,i⟩,j⟩
theorem ExcOk.obj {K:Frag} {CH c:Addr} (h:ExcOk K CH c):∃ cd dd sl,K.lookup c = some ⟨.type "type",dd,.cls cd,sl⟩:=by
 have q:=h.ex
 unfold excIn at q
 split at q
 ·rename_i dd cd sl ho
  exact ⟨cd,dd,sl,ho⟩
 ·cases q
theorem ExcOk.catches {K:Frag} {CH c:Addr} (o:ExcOk K CH c) {h:Heap} (X:K.In h):Catches h CH c:=by
 obtain ⟨cd,⟨dd0,sl0,hl⟩,bm,N,nm,q,bs,hdct,sn,sub,ab,col,dd,k0,k1,k2,k3,k5,mN,em,hC,_⟩:=exc_obj X o.ex
 obtain ⟨cd',_,bm',N',nm',q',bs',hdct',sn',sub',ab',col',dd',j0,j1,j2,j3,j5,mN',em',hH,_,_,T'⟩:=exc_obj X o.exH
 refine ⟨⟨nm,q,N,bs,bm,hdct,sn,sub,ab,col,dd,k0,k1,k2,k3,k5,_,hC,?_⟩,⟨nm',q',N',bs',bm',hdct',sn',sub',ab',col',dd',j0,j1,j2,j3,j5,_,hH,T'.hasType (by decide)⟩⟩
 have s:=o.sub
 have hc:clsIn K c = some cd:=by unfold clsIn; rw [hl]
 have s:((clsIn K c).bind fun cd=>if cd.mro.isEmpty = true then none else some (cd.mro.contains (Value.ref CH))) = some true:=s
 rw [hc] at s
 simp only [Option.bind_some] at s
 rw [em,if_neg (by simp)] at s
 exact Option.some.inj s
theorem kinds_of {K:Frag} {c:Addr} {ds:List Addr} {bs:List Bool} (h:kindSeen K c ds bs = true):(ds.map fun d=>kitOne K (.ref c) (.ref d)) = bs.map some:=by
 unfold kindSeen at h
 exact beq_iff_eq.mp h
theorem ps_raiseE {X:Cx} {E:XK} {x:Str} {CH C:Addr} {e₀:Expr} {rest:List Expr} {ta:TA} {np cpos pos:Pos} (m:X.mg x = some (.ref C)) (o:ExcOk X.K CH C) (hR:Raises X E) (hc:X.calm = true) (hg:Gl X x) (ha:PA X (e₀ :: rest) ta)
  (he:starEach (e₀ :: rest) X.env = (false,eval e₀ X.env) :: starEach rest X.env:=by rfl) (hplain:(backTo cpos (starEach rest X.env)).any (·.1) = false:=by rfl) (hd:(x == ("__debug__":Str)) = false:=by decide) :
  PS X (.Raise (some (.Call (.Name x np) (e₀ :: rest) [] cpos)) none pos) (tRaise (.ref C) ta E):=fun pins s σ H D I h =>
 ps_raise (own_exc I.ok.mod.kin m o.ex) PySem.F.excBase_ValueError hR hc hg ha he hplain hd pins s σ H D I h
theorem FnOk.lift {P:Program} {w:World} {K:Frag} {mg:Str→Option Value} {base:Heap} {CX:CXT} {k:Nat} {f:Addr} {fd:FuncData} {ps:List Str} {sp:Sp} (F:FnOk P w K mg base CX0 k f fd ps sp):FnOk P w K mg base CX k f fd ps sp :=
 ⟨F.len,fun A outer s H args us vs Q E hr e0 hb hv hs=>codeAny_mono (F.run A outer s H args us vs Q E hr e0 hb hv hs) fun r s' q=>by
  cases r with
  | error e=>exact q.elim
  | ok fl =>
   cases fl with
   | ret u=>exact q
   | next=>exact q
   | brk=>exact q
   | cont=>exact q⟩
theorem FnOk.or {P:Program} {w:World} {K:Frag} {mg:Str→Option Value} {base:Heap} {CX:CXT} {k:Nat} {f:Addr} {fd:FuncData} {ps:List Str} {sp sp':Sp} (F:FnOk P w K mg base CX k f fd ps sp) (G:FnOk P w K mg base CX k f fd ps sp') :
  FnOk P w K mg base CX k f fd ps (fun vs H Q E=>sp vs H Q E∨sp' vs H Q E) :=
 ⟨fun vs H Q E h=>h.elim (F.len vs H Q E) (G.len vs H Q E),fun A outer s H args us vs Q E hr e0 hb hv hs=>hs.elim (F.run A outer s H args us vs Q E hr e0 hb hv) (G.run A outer s H args us vs Q E hr e0 hb hv)⟩
end L2
set_option maxRecDepth 100000
namespace Toy
open PySem L2 Geo
def top (i:Nat):Stmt:=PySem.Challenge.pw_hullpart_k11_no_point.main.body.getD i (.Pass ⟨0,0,0,0⟩)
abbrev sChk:Stmt:=top 10
abbrev sChks:Stmt:=top 11
abbrev sCkSpot:Stmt:=top 12
abbrev sTurn:Stmt:=top 13
abbrev sReach:Stmt:=top 14
abbrev sWorth:Stmt:=top 15
abbrev sAlong:Stmt:=top 16
abbrev sAcross:Stmt:=top 17
abbrev sGcd:Stmt:=top 18
abbrev sLowest:Stmt:=top 19
abbrev sWeigh:Stmt:=top 20
abbrev sCor:Stmt:=top 22
abbrev sPlaced:Stmt:=top 23
abbrev sRnd:Stmt:=top 24
abbrev sSide:Stmt:=top 25
abbrev sShut:Stmt:=top 26
abbrev sShares:Stmt:=top 27
abbrev sBetween:Stmt:=top 28
abbrev sOf3:Stmt:=top 29
abbrev sParted:Stmt:=top 33
abbrev sFour:Stmt:=top 34
abbrev sLS:Stmt:=top 35
abbrev sBeside:Stmt:=top 36
abbrev sSteps:Stmt:=top 37
abbrev sLBetween:Stmt:=top 38
abbrev sAdded:Stmt:=top 39
abbrev sWSpot:Stmt:=top 40
abbrev sDepth:Stmt:=top 43
abbrev sMid:Stmt:=top 44
abbrev sThru:Stmt:=top 45
abbrev sCnt:Stmt:=top 46
abbrev sWays:Stmt:=top 47
abbrev sStep:Stmt:=top 48
abbrev sPairs:Stmt:=top 49
abbrev sShow:Stmt:=top 51
abbrev sSPt:Stmt:=top 52
abbrev sCell:Stmt:=top 54
abbrev sNext:Stmt:=top 55
abbrev sPts:Stmt:=top 56
abbrev sLBad:Stmt:=top 57
abbrev sKind:Stmt:=top 58
abbrev sAsked:Stmt:=top 59
abbrev sTried:Stmt:=top 60
abbrev sLaw:Stmt:=top 61
structure Txt (mg:Str→Option Value):Prop where
 len:mg "len" = none
 abs:mg "abs" = none
 sorted:mg "sorted" = none
 set:mg "set" = none
 list:mg "list" = none
 reversed:mg "reversed" = none
 range:mg "range" = none
 isinstance:mg "isinstance" = none
 int:mg "int" = none
 bool:mg "bool" = none
 tuple:mg "tuple" = none
 min:mg "min" = none
 max:mg "max" = none
 all:mg "all" = none
 sum:mg "sum" = none
 zip:mg "zip" = none
 any:mg "any" = none
 str:mg "str" = none
 enumerate:mg "enumerate" = none
 valueError:mg "ValueError" = none
 far:∃ t,mg "FARTHEST" = some (.int 1000 t)
 most:∃ t,mg "MOST_POINTS" = some (.int 12 t)
end Toy
set_option maxRecDepth 100000
namespace Toy
open PySem L2 Geo
section
variable {P:Program} {w:World} {K:PySem.W.Frag} {mg:Str→Option Value} {base:Heap}
def spChk:Sp:=fun vs H Q _=>∃ v p,vs = [v]∧IsPt H v p∧Bd p∧Q .non H
theorem scChk:FnScope ["point"] ["point"] (defScope sChk):=⟨rfl,rfl,rfl,by decide +kernel,rfl,by decide +kernel,by decide +kernel⟩
theorem abs_le {i:Int} (h1:-1000≤i) (h2:i≤1000):decide ((1000:Int) < (if i < 0 then -i else i)) = false:=decide_eq_false (by split <;> omega)
theorem ok_chk {f:Addr} {fd:FuncData} (F:Fun K "check_point" "check_point" sChk f fd) (T:Txt mg):FnOk P w K mg base CX0 1 f fd ["point"] spChk:=by
 refine F.ok scChk (fun vs H Q E h=>?_) (fun cdv A outer s H vs Q E hr h=>?_)
 ·obtain ⟨v,p,rfl,_⟩:=h; rfl
 ·obtain ⟨v,p,rfl,hp,hb,k⟩:=h
  obtain ⟨t,hf⟩:=T.far
  obtain ⟨a,rfl,ha⟩:=hp
  refine ⟨_,pss_one (ps_if (PW.pt (pw_or (pt_cmpR op_ne (pe_callB call_len_seq rfl T.len PySem.boot_len (pa_cons (pv 0) pa_nil)) pe_int (nomark _))
   (pw_or (pt_cmpR op_gt (pe_callB call_abs rfl T.abs PyProof.Rows.boot_abs (pa_cons (pe_ix ix_tup (pv 0) pe_int (fun _ _=>rfl)) pa_nil)) (pe_glob (v:=.int 1000) rfl hf ⟨t,rfl⟩) (nomark _))
    (pw_or1 (pt_cmpR op_gt (pe_callB call_abs rfl T.abs PyProof.Rows.boot_abs (pa_cons (pe_ix ix_tup (pv 0) pe_int (fun _ _=>rfl)) pa_nil)) (pe_glob (v:=.int 1000) rfl hf ⟨t,rfl⟩) (nomark _))))))
   pss_never pss_nil),?_⟩
  refine ⟨_,rfl,a,_,rfl,.inr (SqT.of ha),rfl,_,rfl,?_⟩
  refine iteF ?_
  refine ⟨_,rfl,a,_,_,_,rfl,rfl,SqT.of ha,atI_nat (j:=0) rfl,_,rfl,_,_,rfl,rfl,_,rfl,?_⟩
  rw [abs_le hb.1 hb.2.1]
  refine iteF ?_
  refine ⟨_,rfl,a,_,_,_,rfl,rfl,SqT.of ha,atI_nat (j:=1) rfl,_,rfl,_,_,rfl,rfl,_,rfl,?_⟩
  rw [abs_le hb.2.2.1 hb.2.2.2]
  exact iteF k
def spChks (K:PySem.W.Frag):Sp:=fun vs H Q _=>∃ a xs ps,vs = [.ref a]∧SqL K H a xs∧ArePts H xs ps∧ps.length≤12∧(∀ p ∈ ps,Bd p)∧Q .non H
theorem scChks:FnScope ["points","point"] ["points"] (defScope sChks):=⟨rfl,rfl,rfl,by decide +kernel,rfl,by decide +kernel,by decide +kernel⟩
theorem ok_chks {f g:Addr} {fd gd:FuncData} (F:Fun K "check_points" "check_points" sChks f fd) (T:Txt mg) (G:FnOk P w K mg base CX0 1 g gd ["point"] spChk) (bG:Binds K gd ["point"] []) (kG:PySem.W.keepIn K (.ref g) = true) (mG:mg "check_point" = some (.ref g)) :
  FnOk P w K mg base CX0 2 f fd ["points"] (spChks K):=by
 refine F.ok scChks (fun vs H Q E h=>?_) (fun cdv A outer s H vs Q E hr h=>?_)
 ·obtain ⟨a,xs,ps,rfl,_⟩:=h; rfl
 ·obtain ⟨a,xs,ps,rfl,hq,hp,hl,hb,k⟩:=h
  obtain ⟨t,hm⟩:=T.most
  have ln:=hp.length
  refine ⟨_,pss_cons (ps_if (pt_cmpR op_gt (pe_callB call_len_seq rfl T.len PySem.boot_len (pa_cons (pv 0) pa_nil)) (pe_glob (v:=.int 12) rfl hm ⟨t,rfl⟩) (nomark _)) pss_never pss_nil)
   (pss_one (ps_for PassesOwn.never rfl (pi_list (pv 0)) (pg_name (i:=1) scChks.nd rfl (Or.inl rfl)) (pss_one (ps_expr (pe_call G hr rfl mG kG bG .nil pass0 (pa_cons (pv 1) pa_nil)))))),?_⟩
  refine ⟨_,rfl,a,_,rfl,.inl hq,_,_,rfl,rfl,_,rfl,?_⟩
  rw [decide_eq_false (show ¬ (12:Int) < (xs.length:Int) by omega)]
  refine iteF ?_
  refine ⟨_,rfl,a,rfl,⟨_,hq⟩,for_list (K:=K) (a:=a) (xs:=xs) (fun i σ H2=>H2 = H∧∃ v,σ = [some (.ref a),v]) ⟨rfl,none,rfl⟩ (fun i σ H2 _ ⟨e,_⟩=>by rw [e]; exact hq) ?_ ?_⟩
  ·rintro i y σ H2 hi ⟨rfl,v,rfl⟩
   obtain ⟨p,h1,h2⟩:=Pair.get hp hi
   exact ⟨_,rfl,y,p,rfl,h2,hb p (List.mem_of_getElem? h1),rfl,some y,rfl⟩
  ·rintro σ H2 ⟨rfl,v,rfl⟩
   exact k
end
end Toy
set_option maxRecDepth 100000
namespace Toy
open PySem L2 Geo
section
variable {P:Program} {w:World} {K:PySem.W.Frag} {mg:Str→Option Value} {base:Heap}
def IsPtK (K:PySem.W.Frag) (H:Hp) (v:V) (p:Pt):Prop:=∃ a,v = .ref a∧SqT K H a [.int p.1,.int p.2]
theorem _root_.L2.IsPt.k {K:PySem.W.Frag} {H:Hp} {v:V} {p:Pt} (h:IsPt H v p):IsPtK K H v p:=by
 obtain ⟨a,e,h⟩:=h; exact ⟨a,e,SqT.of h⟩
theorem _root_.L2.Same.seqT {K:PySem.W.Frag} {H H':Hp} {a:Addr} {xs:List V} (e:Same H H') (h:SqT K H a xs):SqT K H' a xs:=by
 rcases h with (h | ⟨o,h⟩) | h
 ·exact .inl (.inl (e _ _ h))
 ·exact .inl (.inr ⟨o,e _ _ h⟩)
 ·exact .inr h
theorem IsPtK.same {K:PySem.W.Frag} {H H':Hp} {v:V} {p:Pt} (h:IsPtK K H v p) (s:Same H H'):IsPtK K H' v p:=by
 obtain ⟨a,e,h⟩:=h; exact ⟨a,e,s.seqT h⟩
def spTurn (K:PySem.W.Frag):Sp:=fun vs H Q _=>∃ u v w a b c,vs = [u,v,w]∧IsPt H u a∧IsPt H v b∧IsPtK K H w c∧Bw a∧Bw b∧Bw c∧Q (.int (turn a b c)) H
theorem scTurn:FnScope ["tail","head","point"] ["tail","head","point"] (defScope sTurn):=⟨rfl,rfl,rfl,by decide +kernel,rfl,by decide +kernel,by decide +kernel⟩
theorem ok_turn {f:Addr} {fd:FuncData} (F:Fun K "turn" "turn" sTurn f fd):FnOk P w K mg base CX0 1 f fd ["tail","head","point"] (spTurn K):=by
 refine F.ok scTurn (fun vs H Q E h=>?_) (fun cdv A outer s H vs Q E hr h=>?_)
 ·obtain ⟨u,v,w,a,b,c,rfl,_⟩:=h; rfl
 ·obtain ⟨u,v,w,a,b,c,rfl,⟨p,rfl,hp⟩,⟨q,rfl,hq⟩,⟨r,rfl,hr'⟩,ba,bb,bc,k⟩:=h
  refine ⟨_,pss_one (ps_ret (pe_op op_sub
   (pe_op op_mul (pe_op op_sub (pe_ix ix_tup (pv 1) pe_int (fun _ _=>rfl)) (pe_ix ix_tup (pv 0) pe_int (fun _ _=>rfl))) (pe_op op_sub (pe_ix ix_tup (pv 2) pe_int (fun _ _=>rfl)) (pe_ix ix_tup (pv 0) pe_int (fun _ _=>rfl))))
   (pe_op op_mul (pe_op op_sub (pe_ix ix_tup (pv 1) pe_int (fun _ _=>rfl)) (pe_ix ix_tup (pv 0) pe_int (fun _ _=>rfl))) (pe_op op_sub (pe_ix ix_tup (pv 2) pe_int (fun _ _=>rfl)) (pe_ix ix_tup (pv 0) pe_int (fun _ _=>rfl)))))),?_⟩
  have m1:CMul (b.1 - a.1) (c.2 - a.2):=mulW _ _ _ ba.1 ba.2.1 bb.1 bb.2.1
  have m2:CMul (b.2 - a.2) (c.1 - a.1):=mulW _ _ _ ba.2.2.1 ba.2.2.2 bb.2.2.1 bb.2.2.2
  refine ⟨_,rfl,q,_,_,_,rfl,rfl,SqT.of hq,atI_nat (j:=0) rfl,_,rfl,p,_,_,_,rfl,rfl,SqT.of hp,atI_nat (j:=0) rfl,_,_,rfl,rfl,?_⟩
  refine ⟨_,rfl,r,_,_,_,rfl,rfl,hr',atI_nat (j:=1) rfl,_,rfl,p,_,_,_,rfl,rfl,SqT.of hp,atI_nat (j:=1) rfl,_,_,rfl,rfl,?_⟩
  refine ⟨_,_,rfl,rfl,m1,?_⟩
  refine ⟨_,rfl,q,_,_,_,rfl,rfl,SqT.of hq,atI_nat (j:=1) rfl,_,rfl,p,_,_,_,rfl,rfl,SqT.of hp,atI_nat (j:=1) rfl,_,_,rfl,rfl,?_⟩
  refine ⟨_,rfl,r,_,_,_,rfl,rfl,hr',atI_nat (j:=0) rfl,_,rfl,p,_,_,_,rfl,rfl,SqT.of hp,atI_nat (j:=0) rfl,_,_,rfl,rfl,?_⟩
  exact ⟨_,_,rfl,rfl,m2,_,_,rfl,rfl,k⟩
def spSide (K:PySem.W.Frag):Sp:=fun vs H Q _=>∃ a xs ps,vs = [.ref a]∧SqL K H a xs∧ArePts H xs ps∧ps.length≤16∧(∀ p ∈ ps,Bd2 p) ∧
 ∀ r zs H',H r = none→Same H H'→H' r = some (.lst zs)→ArePts H' zs (sideOf ps)→Q (.ref r) H'
theorem scSide:FnScope ["points","side","point"] ["points"] (defScope sSide):=⟨rfl,rfl,rfl,by decide +kernel,rfl,by decide +kernel,by decide +kernel⟩
theorem sideRev_len:∀ (ps st:List Pt),(sideRev st ps).length≤st.length+ps.length
 | [],st=>by simp [sideRev]
 | p :: r,st=>by
  unfold sideRev
  have h1:=sideRev_len r (p :: popB p st)
  have h2:=(popB_suffix p st).length_le
  simp at h1 ⊢; omega
theorem sideRev_sub:∀ (ps st:List Pt),∀ x ∈ sideRev st ps,x ∈ st∨x ∈ ps
 | [],st,x,h=>by simp [sideRev] at h; exact .inl h
 | p :: r,st,x,h=>by
  unfold sideRev at h
  rcases sideRev_sub r _ x h with z | z
  ·rcases List.mem_cons.mp z with z | z
   ·exact .inr (by rw [z]; simp)
   ·exact .inl ((popB_suffix p st).subset z)
  ·exact .inr (List.mem_cons_of_mem _ z)
theorem sideRev_snoc:∀ (ps st:List Pt) (p:Pt),sideRev st (ps++[p]) = p :: popB p (sideRev st ps)
 | [],st,p=>rfl
 | q :: r,st,p=>by
  show sideRev (q :: popB q st) (r++[p]) = _
  rw [sideRev_snoc r]
  rfl
theorem ok_side {f g:Addr} {fd gd:FuncData} (F:Fun K "side_of" "side_of" sSide f fd) (T:Txt mg) (G:FnOk P w K mg base CX0 1 g gd ["tail","head","point"] (spTurn K)) (bG:Binds K gd ["tail","head","point"] []) (kG:PySem.W.keepIn K (.ref g) = true) (mG:mg "turn" = some (.ref g)) :
  FnOk P w K mg base CX0 2 f fd ["points"] (spSide K):=by
 refine F.ok scSide (fun vs H Q E h=>?_) (fun cdv A outer s H vs Q E hr h=>?_)
 ·obtain ⟨a,xs,ps,rfl,_⟩:=h; rfl
 ·obtain ⟨a,xs,ps,rfl,hq,hp,hl,hb,k⟩:=h
  have ln:=hp.length
  refine ⟨_,pss_cons (ps_set (i:=1) scSide.nd rfl (Or.inl rfl) (pe_lst pa_nil))
   (pss_cons (ps_for PassesOwn.never rfl (pi_list (pv 0)) (pg_name (i:=2) scSide.nd rfl (Or.inl rfl))
    (pss_cons (ps_while PassesOwn.never (PW.pt (pw_and (pt_cmpR op_gt (pe_callB call_len_seq rfl T.len PySem.boot_len (pa_cons (pv 1) pa_nil)) pe_int (nomark _))
      (pw_and1 (pt_cmpR op_le (pe_call G hr rfl mG kG bG .nil pass0 (pa_cons (pe_ix ix_list (pv 1) (pe_un un_neg pe_int) (fun _ _=>rfl)) (pa_cons (pe_ix ix_list (pv 1) (pe_un un_neg pe_int) (fun _ _=>rfl)) (pa_cons (pv 2) pa_nil)))) pe_int (nomark _)))))
     (pss_one (ps_expr (pe_bm0 PySem.F.plainAttrs_list PySem.F.slot_list_pop PySem.F.type_list_pop mt_pop (pv 1)))))
    (pss_one (ps_expr (pe_bm PySem.F.plainAttrs_list PySem.F.slot_list_append PySem.F.type_list_append mt_append (pv 1) (pa_cons (pv 2) pa_nil))))))
   (pss_one (ps_ret (pv 1)))),?_⟩
  refine ⟨(by show 0≤sizeLine; decide),fun r hr0=>?_⟩
  refine ⟨_,rfl,a,rfl,⟨_,(same_upd (Same.refl H) hr0).seq hq⟩,for_list (K:=K) (a:=a) (xs:=xs)
   (fun i σ H2=>∃ v zs,σ = [some (.ref a),some (.ref r),v]∧Same H H2∧H2 r = some (.lst zs)∧ArePts H2 zs (sideRev [] (ps.take i)).reverse)
   ⟨none,[],rfl,same_upd (Same.refl H) hr0,upd_same,.nil⟩ (fun i σ H2 _ ⟨_,_,_,s2,_⟩=>s2.seq hq) ?_ ?_⟩
  ·rintro i y σ H2 hi ⟨v,zs,rfl,s2,h2,hz⟩
   obtain ⟨p,p1,p2⟩:=Pair.get hp hi
   have hil:i < xs.length:=(List.getElem?_eq_some_iff.mp hi).1
   have bs:∀ q ∈ sideRev [] (ps.take i),Bd2 q:=fun q hq=>by
    rcases sideRev_sub _ _ q hq with z | z
    ·simp at z
    ·exact hb q (List.mem_of_mem_take z)
   have bp:Bd2 p:=hb p (List.mem_of_getElem? p1)
   have lz:(sideRev [] (ps.take i)).length≤16:=by
    have:=sideRev_len (ps.take i) []
    rw [List.length_take] at this; simp at this; omega
   refine ⟨fun m σ' H3=>∃ st zs',σ' = [some (.ref a),some (.ref r),some y]∧m = st.length∧Same H H3∧H3 r = some (.lst zs')∧ArePts H3 zs' st.reverse∧popB p st = popB p (sideRev [] (ps.take i))∧st <:+ sideRev [] (ps.take i),
    ⟨_,sideRev [] (ps.take i),zs,rfl,rfl,s2,h2,hz,rfl,List.suffix_refl _⟩,?_⟩
   rintro m σ' H3 ⟨st,zs',rfl,rfl,s3,h3,hz',hpop,hsuf⟩
   have lz':=hz'.length
   rw [List.length_reverse] at lz'
   have bst:∀ q ∈ st,Bd2 q:=fun q hq=>bs q (hsuf.subset hq)
   have lst:=hsuf.length_le
   have leave:popB p st = st→tBM K "list" rAppend (tVar 1) (tCons (tVar 2) tNil) [some (.ref a),some (.ref r),some y] H3 (fun _ H4=>∃ v zs,([some (.ref a),some (.ref r),some y]:St) = [some (.ref a),some (.ref r),v]∧Same H H4∧H4 r = some (.lst zs)∧ArePts H4 zs (sideRev [] (ps.take (i+1))).reverse):=fun hst=>by
    refine ⟨_,rfl,.inl ⟨rfl,_,SqL.of h3⟩,_,rfl,r,_,_,rfl,rfl,h3,small1000 (by omega),?_⟩
    refine ⟨_,_,rfl,same_upd s3 hr0,upd_same,?_⟩
    have e1:ps.take (i+1) = ps.take i++[p]:=by rw [List.take_add_one,p1]; rfl
    rw [e1,sideRev_snoc,← hpop,hst,List.reverse_cons]
    exact Pair.append (ArePts.keep hz' (Keep.lst h3 _)) (.cons (IsPt.keep p2 ((Same.keep s3).trans (Keep.lst h3 _))) .nil)
   refine ⟨_,rfl,r,_,rfl,.inl (SqL.of h3),_,_,rfl,rfl,_,rfl,?_⟩
   match st,hpop,hsuf,lz',bst,hz',lst,leave with
   | [],_,_,lz',_,_,_,leave =>
    rw [decide_eq_false (show ¬ (1:Int) < (zs'.length:Int) by rw [lz']; simp)]
    refine iteF (iteF (leave rfl))
   | [b],_,_,lz',_,_,_,leave =>
    rw [decide_eq_false (show ¬ (1:Int) < (zs'.length:Int) by rw [lz']; simp)]
    refine iteF (iteF (leave rfl))
   | b :: c :: rr,hpop,hsuf,lz',bst,hz',lst,leave =>
    simp only [List.length_cons] at lz' lst
    rw [decide_eq_true (show (1:Int) < (zs'.length:Int) by omega)]
    refine iteT ?_
    have lrev:(b :: c :: rr).reverse.length = rr.length+2:=by simp
    have g1:(b :: c :: rr).reverse[zs'.length - 1]? = some b:=by
     rw [List.getElem?_reverse (by simp; omega)]
     simp only [List.length_cons]
     rw [show rr.length+1+1 - 1 - (zs'.length - 1) = 0 by omega]; rfl
    have g2:(b :: c :: rr).reverse[zs'.length - 2]? = some c:=by
     rw [List.getElem?_reverse (by simp; omega)]
     simp only [List.length_cons]
     rw [show rr.length+1+1 - 1 - (zs'.length - 2) = 1 by omega]; rfl
    obtain ⟨vb,b1,b2⟩:=Pair.get' hz' g1
    obtain ⟨vc,c1,c2⟩:=Pair.get' hz' g2
    refine ⟨_,rfl,_,rfl,r,_,_,_,rfl,rfl,SqL.of h3,atI_m2 c1 (by omega),_,rfl,_,rfl,r,_,_,_,rfl,rfl,SqL.of h3,atI_m1 b1,_,rfl,vc,vb,y,c,b,p,rfl,c2,b2,(IsPt.keep p2 (Same.keep s3)).k,(bst c (by simp)).w,(bst b (by simp)).w,bp.w,_,_,rfl,rfl,_,rfl,?_⟩
    by_cases ht:turn c b p≤0
    ·rw [decide_eq_true ht]
     refine iteT ⟨fun σ4 H4=>∃ zs4,σ4 = [some (.ref a),some (.ref r),some y]∧Same H H4∧H4 r = some (.lst zs4)∧ArePts H4 zs4 (c :: rr).reverse,fun σ4 H4 ⟨zs4,e4,s4,h4,z4⟩=>?_,?_⟩
     ·refine ⟨(c :: rr).length,by simp,c :: rr,zs4,e4,rfl,s4,h4,z4,?_,(List.suffix_cons _ _).trans hsuf⟩
      rw [← hpop]
      show popB p (c :: rr) = popB p (b :: c :: rr)
      conv=>rhs; unfold popB
      rw [if_pos ht]
     ·refine ⟨_,rfl,.inl ⟨rfl,_,SqL.of h3⟩,r,_,_,rfl,rfl,h3,b1,?_⟩
      refine ⟨_,rfl,same_upd s3 hr0,upd_same,?_⟩
      have:=Pair.dropLast (ArePts.keep hz' (Keep.lst h3 (.lst zs'.dropLast)))
      rw [List.reverse_cons,List.dropLast_concat] at this
      exact this
    ·rw [decide_eq_false ht]
     refine iteF (leave ?_)
     unfold popB
     rw [if_neg ht]
  ·rintro σ H2 ⟨v,zs,rfl,s2,h2,hz⟩
   refine ⟨_,rfl,?_⟩
   rw [List.take_of_length_le (by omega)] at hz
   exact k r zs H2 hr0 s2 h2 hz
theorem cut_last (xs:List V):cutV xs none (some (-1)) = xs.dropLast:=by
 unfold cutV
 rw [show HT.sIx xs.length 0 none = 0 from rfl,List.drop_zero,Nat.sub_zero,List.dropLast_eq_take]
 congr 1
 show (if (-1:Int) < 0 then ((-1:Int)+(xs.length:Int)).toNat else min (-1:Int).toNat xs.length) = xs.length - 1
 rw [if_pos (by decide)]; omega
theorem sideOf_len (ps:List Pt):(sideOf ps).length≤ps.length:=by
 unfold sideOf
 rw [List.length_reverse]
 have:=sideRev_len ps []
 simpa using this
def spRnd (K:PySem.W.Frag):Sp:=fun vs H Q _=>∃ a xs ps,vs = [.ref a]∧SqL K H a xs∧ArePts H xs ps∧ps.length≤12∧(∀ p ∈ ps,Bd2 p) ∧
 ∀ r zs H',H r = none→Same H H'→H' r = some (.lst zs)→ArePts H' zs (cornersM ps)→Q (.ref r) H'
theorem scRnd:FnScope ["points","rising"] ["points"] (defScope sRnd):=⟨rfl,rfl,rfl,by decide +kernel,rfl,by decide +kernel,by decide +kernel⟩
theorem ok_rnd {f g:Addr} {fd gd:FuncData} (F:Fun K "corners_round" "corners_round" sRnd f fd) (T:Txt mg) (G:FnOk P w K mg base CX0 2 g gd ["points"] (spSide K)) (bG:Binds K gd ["points"] []) (kG:PySem.W.keepIn K (.ref g) = true) (mG:mg "side_of" = some (.ref g)) :
  FnOk P w K mg base CX0 3 f fd ["points"] (spRnd K):=by
 refine F.ok scRnd (fun vs H Q E h=>?_) (fun cdv A outer s H vs Q E hr h=>?_)
 ·obtain ⟨a,xs,ps,rfl,_⟩:=h; rfl
 ·obtain ⟨a,xs,ps,rfl,hq,hp,hl,hb,k⟩:=h
  have hu:(A.deeper (PyProof.Rows.envOfC "corners_round" (defScope sRnd) s.heap.objs.size f cdv)).units+16 < cLine:=by have:=hr.units; omega
  refine ⟨_,pss_cons (ps_set (i:=1) scRnd.nd rfl (Or.inl rfl) (pe_sortset hu hr.hd rfl T.sorted rfl T.set (pv 0)))
   (pss_cons (ps_if (pt_cmpR op_lt (pe_callB call_len_seq rfl T.len PySem.boot_len (pa_cons (pv 1) pa_nil)) pe_int (nomark _)) (pss_one (ps_ret (pv 1))) pss_nil)
   (pss_one (ps_ret (pe_op op_cat
    (pe_slice sl_list (pe_call G hr rfl mG kG bG .nil pass0 (pa_cons (pv 1) pa_nil)) po_none (po_some (pe_un un_neg pe_int)))
    (pe_slice sl_list (pe_call G hr rfl mG kG bG .nil pass0 (pa_cons (pe_listrev hr.hd rfl T.list rfl T.reversed (pv 1)) pa_nil)) po_none (po_some (pe_un un_neg pe_int))))))),?_⟩
  refine ⟨_,rfl,a,xs,ps,rfl,hq,hp,by omega,fun l zs hl0 hz _=>?_⟩
  have hz1:ArePts (upd H l (.lst zs)) zs (uniqP ps):=ArePts.keep hz (Keep.new hl0 _)
  have s1:Same H (upd H l (.lst zs)):=same_upd (Same.refl H) hl0
  have lz:=hz.length
  have lu:=uniqP_le ps
  have bu:∀ p ∈ uniqP ps,Bd2 p:=fun p hp=>hb p (mem_uniqP.mp hp)
  refine ⟨_,rfl,l,_,rfl,.inl (SqL.of upd_same),_,_,rfl,rfl,_,rfl,?_⟩
  refine ite2 (fun c=>?_) (fun c=>?_)
  ·have c':(zs.length:Int) < 2:=of_decide_eq_true c
   refine ⟨_,rfl,k l zs _ hl0 s1 upd_same ?_⟩
   have:cornersM ps = uniqP ps:=by unfold cornersM hullR; rw [if_pos (by omega)]
   rw [this]; exact hz1
  ·have c':¬ (zs.length:Int) < 2:=of_decide_eq_false (Bool.eq_false_iff.mpr c)
   refine ⟨_,rfl,l,zs,uniqP ps,rfl,SqL.of upd_same,hz1,by omega,bu,fun r1 z1 H2 n2 s2 h2 p2=>?_⟩
   refine ⟨_,rfl,_,rfl,r1,_,rfl,SqL.of h2,fun r2 n3=>?_⟩
   have s3:Same H2 (upd H2 r2 (.lst (cutV z1 none (some (-1))))):=same_upd (Same.refl _) n3
   have s12:=s2.trans s3
   refine ⟨_,rfl,l,zs,rfl,SqL.of (s12 _ _ upd_same),fun l2 n4=>?_⟩
   have s4:=same_upd (o:=.lst zs.reverse) (Same.refl (upd H2 r2 (.lst (cutV z1 none (some (-1)))))) n4
   have hz4:ArePts (upd (upd H2 r2 (.lst (cutV z1 none (some (-1))))) l2 (.lst zs.reverse)) zs.reverse (uniqP ps).reverse:=ArePts.keep (Pair.reverse hz1) (Same.keep (s12.trans s4))
   refine ⟨l2,zs.reverse,(uniqP ps).reverse,rfl,SqL.of upd_same,hz4,by rw [List.length_reverse]; omega,fun p hp=>bu p (List.mem_reverse.mp hp),fun r3 z3 H5 n5 s5 h5 p5=>?_⟩
   refine ⟨_,rfl,_,rfl,r3,_,rfl,SqL.of h5,fun r4 n6=>?_⟩
   have s6:=same_upd (o:=.lst (cutV z3 none (some (-1)))) (Same.refl H5) n6
   have hr2:(upd H5 r4 (.lst (cutV z3 none (some (-1))))) r2 = some (.lst (cutV z1 none (some (-1)))):=(s4.trans (s5.trans s6)) _ _ upd_same
   have ll1:=p2.length
   have ll3:=p5.length
   have lo1:=sideOf_len (uniqP ps)
   have lo3:=sideOf_len (uniqP ps).reverse
   rw [List.length_reverse] at lo3
   refine ⟨r2,r4,_,_,rfl,rfl,hr2,upd_same,?_,fun r5 n7=>?_⟩
   ·rw [cut_last,cut_last,List.length_dropLast,List.length_dropLast]
    exact Nat.le_of_lt (small1000 (by omega))
   ·have s7:=same_upd (o:=.lst (cutV z1 none (some (-1))++cutV z3 none (some (-1)))) (Same.refl (upd H5 r4 (.lst (cutV z3 none (some (-1)))))) n7
    have nr5:H r5 = none:=by
     cases q:H r5 with
     | none=>rfl
     | some o =>
      have:=(s1.trans (s12.trans (s4.trans (s5.trans s6)))) r5 o q
      rw [n7] at this; cases this
    refine k r5 _ _ nr5 (s1.trans (s12.trans (s4.trans (s5.trans (s6.trans s7))))) upd_same ?_
    have e:cornersM ps = (sideOf (uniqP ps)).dropLast++(sideOf (uniqP ps).reverse).dropLast:=by unfold cornersM hullR; rw [if_neg (by omega)]
    rw [e]
    have ez:cutV z1 none (some (-1))++cutV z3 none (some (-1)) = z1.dropLast++z3.dropLast:=by rw [cut_last,cut_last]
    refine (congrArg (fun l=>ArePts _ l _) ez).mpr ?_
    exact Pair.append (Pair.dropLast (ArePts.keep p2 (Same.keep (s3.trans (s4.trans (s5.trans (s6.trans s7))))))) (Pair.dropLast (ArePts.keep p5 (Same.keep (s6.trans s7))))
end
end Toy
set_option maxRecDepth 100000
namespace Toy
open PySem L2 Geo
section
variable {P:Program} {w:World} {K:PySem.W.Frag} {mg:Str→Option Value} {base:Heap}
def spCor (K:PySem.W.Frag):Sp:=fun vs H Q _=>∃ a xs ps,vs = [.ref a]∧SqL K H a xs∧ArePts H xs ps∧ps.length≤12∧(∀ p ∈ ps,Bd p) ∧
 ∀ r zs H',H r = none→Same H H'→H' r = some (.lst zs)→ArePts H' zs (cornersM ps)→Q (.ref r) H'
theorem scCor:FnScope ["points"] ["points"] (defScope sCor):=⟨rfl,rfl,rfl,by decide +kernel,rfl,by decide +kernel,by decide +kernel⟩
theorem ok_cor {f g h:Addr} {fd gd hd:FuncData} (F:Fun K "corners" "corners" sCor f fd) (G:FnOk P w K mg base CX0 2 g gd ["points"] (spChks K)) (bG:Binds K gd ["points"] []) (kG:PySem.W.keepIn K (.ref g) = true) (mG:mg "check_points" = some (.ref g))
  (R:FnOk P w K mg base CX0 3 h hd ["points"] (spRnd K)) (bR:Binds K hd ["points"] []) (kR:PySem.W.keepIn K (.ref h) = true) (mR:mg "corners_round" = some (.ref h)) :
  FnOk P w K mg base CX0 4 f fd ["points"] (spCor K):=by
 refine F.ok scCor (fun vs H Q E h=>?_) (fun cdv A outer s H vs Q E hr h=>?_)
 ·obtain ⟨a,xs,ps,rfl,_⟩:=h; rfl
 ·obtain ⟨a,xs,ps,rfl,hq,hp,hl,hb,k⟩:=h
  refine ⟨_,pss_cons (ps_expr (pe_call G (hr.mono (by decide)) rfl mG kG bG .nil pass0 (pa_cons (pv 0) pa_nil))) (pss_one (ps_ret (pe_call R hr rfl mR kR bR .nil pass0 (pa_cons (pv 0) pa_nil)))),?_⟩
  refine ⟨_,rfl,a,xs,ps,rfl,hq,hp,hl,hb,?_⟩
  exact ⟨_,rfl,a,xs,ps,rfl,hq,hp,hl,fun p h=>(hb p h).two,k⟩
end
end Toy
set_option maxRecDepth 100000
namespace Toy
open PySem L2 Geo
section
variable {P:Program} {w:World} {K:PySem.W.Frag} {mg:Str→Option Value} {base:Heap}
def spCell (K:PySem.W.Frag):Sp:=fun vs H Q _=>∃ (a:Addr) (ns:List Int) (k:Int),vs = [.ref a,.int k]∧SqL K H a (ns.map V.int)∧0≤k∧∀ z:Int,z = ns.getD k.toNat 0→Q (.int z) H
theorem scCell:FnScope ["script","k"] ["script","k"] (defScope sCell):=⟨rfl,rfl,rfl,by decide +kernel,rfl,by decide +kernel,by decide +kernel⟩
theorem ok_cell {f:Addr} {fd:FuncData} (F:Fun K "_law_cell_at" "_law_cell_at" sCell f fd) (T:Txt mg):FnOk P w K mg base CX0 1 f fd ["script","k"] (spCell K):=by
 refine F.ok scCell (fun vs H Q E h=>?_) (fun cdv A outer s H vs Q E hr h=>?_)
 ·obtain ⟨a,ns,k,rfl,_⟩:=h; rfl
 ·obtain ⟨a,ns,k,rfl,hq,h0,q⟩:=h
  refine ⟨_,pss_cons (ps_if (pt_cmpR op_lt (pv 1) (pe_callB call_len_seq rfl T.len PySem.boot_len (pa_cons (pv 0) pa_nil)) (nomark _)) (pss_one (ps_ret (pe_ix ix_list (pv 0) (pv 1) (fun _ _=>rfl)))) pss_nil) (pss_one (ps_ret pe_int)),?_⟩
  refine ⟨_,rfl,_,rfl,a,_,rfl,.inl hq,_,_,rfl,rfl,_,rfl,?_⟩
  refine ite2 (fun c=>?_) (fun c=>?_)
  ·have c':k < ((ns.map V.int).length:Int):=of_decide_eq_true c
   rw [List.length_map] at c'
   have hk:k.toNat < ns.length:=by omega
   have e:atI (ns.map V.int) k = some (.int ns[k.toNat]):=by
    have:=atI_nat (xs:=ns.map V.int) (j:=k.toNat) (v:=.int ns[k.toNat]) (by simp [hk])
    rw [show ((k.toNat:Nat):Int) = k by omega] at this
    exact this
   exact ⟨_,rfl,_,rfl,a,_,_,_,rfl,rfl,hq,e,q _ (by rw [List.getD_eq_getElem?_getD,List.getElem?_eq_getElem hk]; rfl)⟩
  ·have c':¬ k < ((ns.map V.int).length:Int):=of_decide_eq_false (Bool.eq_false_iff.mpr c)
   rw [List.length_map] at c'
   exact q 0 (by rw [List.getD_eq_getElem?_getD,List.getElem?_eq_none (by omega)]; rfl)
def spNext:Sp:=fun vs H Q _=>∃ x:Int,vs = [.int x]∧∀ r:Int,0≤r→r < 2147483629→Q (.int r) H
theorem scNext:FnScope ["seed"] ["seed"] (defScope sNext):=⟨rfl,rfl,rfl,by decide +kernel,rfl,by decide +kernel,by decide +kernel⟩
theorem ok_next {f:Addr} {fd:FuncData} (F:Fun K "_law_next" "_law_next" sNext f fd):FnOk P w K mg base CX0 1 f fd ["seed"] spNext:=by
 refine F.ok scNext (fun vs H Q E h=>?_) (fun cdv A outer s H vs Q E hr h=>?_)
 ·obtain ⟨x,rfl,_⟩:=h; rfl
 ·obtain ⟨x,rfl,q⟩:=h
  refine ⟨_,pss_cons (ps_set (i:=0) scNext.nd rfl (Or.inl rfl) (pe_op op_mod (pe_op op_add (pv 0) pe_int) pe_int))
   (pss_one (ps_ret (pe_op op_mod (pe_op op_add (pe_op op_add (pe_op op_mul (pv 0) (pv 0)) (pe_op op_mul pe_int (pv 0))) pe_int) pe_int))),?_⟩
  refine ⟨_,rfl,_,_,rfl,rfl,_,_,rfl,rfl,(by show (0:Int) < 2147483647; decide),?_⟩
  have h1:=Int.emod_nonneg (x+7919) (show (2147483647:Int) ≠ 0 by decide)
  have h2:=Int.emod_lt_of_pos (x+7919) (show (0:Int) < 2147483647 by decide)
  refine ⟨_,rfl,_,rfl,_,_,rfl,rfl,.inl ⟨Int.lt_of_lt_of_le (by decide) h1,Int.lt_trans h2 (by decide)⟩,_,rfl,_,_,rfl,rfl,.inl ⟨by decide,by decide⟩,_,_,rfl,rfl,_,_,rfl,rfl,_,_,rfl,rfl,(by show (0:Int) < 2147483629; decide),?_⟩
  exact q _ (Int.emod_nonneg _ (by decide)) (Int.emod_lt_of_pos _ (by decide))
end
end Toy
set_option maxRecDepth 100000
namespace Toy
open PySem L2 Geo
section
variable {P:Program} {w:World} {K:PySem.W.Frag} {mg:Str→Option Value} {base:Heap}
def spPts (K:PySem.W.Frag):Sp:=fun vs H Q _=>∃ (a:Addr) (ns:List Int) (i m:Int),vs = [.ref a,.int i,.int m]∧SqL K H a (ns.map V.int)∧0≤i∧0≤m∧m≤12 ∧
 ∀ r zs ps H',H r = none→Same H H'→H' r = some (.lst zs)→ArePts H' zs ps→ps.length = (ns.getD i.toNat 0 % (m+1)).toNat→(ps.length:Int)≤m→(∀ p ∈ ps,Bd p)→Q (.ref r) H'
theorem scPts:FnScope ["script","at","most","many","span","points","k","seed","wide","across"] ["script","at","most"] (defScope sPts):=⟨rfl,rfl,rfl,by decide +kernel,rfl,by decide +kernel,by decide +kernel⟩
abbrev cPts:Scope:=lcScope (defScope sPts) (asgVal (nth (ifBody (nth (defBody sPts) 4)) 1))
theorem cs_pts {cdv:Value} {A:Around} {outer:List Env} {s:Shared} {H:Hp} {E:XK} {f:Addr} :
  CompScope (cxOf CX0 P w K mg base ["script","at","most","many","span","points","k","seed","wide","across"] "_law_points" (defScope sPts) f cdv A outer s H E).nox cPts ["point","across"] [none,some 9] where
 kind:=rfl
 nocell:=by decide +kernel
 names:=by decide +kernel
 frees:=by show ∀ z ∈ cPts.names,z.2 = .free→(defScope sPts).names.lookup z.1 = some .cell; decide +kernel
 nd:=by decide +kernel
 len:=rfl
 cap:=fun i j h=>match i,h with
  | 0,h=>by simp at h
  | 1,h=>by
   simp at h; subst h
   exact ⟨"across",rfl,rfl,by decide +kernel,rfl,.inl rfl⟩
  | n+2,h=>by simp at h
theorem span_at (z:Int):∃ sp:Int,atI ([.int 2,.int 4,.int 1000,.int 1]:List V) (z % 4) = some (.int sp)∧1≤sp∧sp≤1000:=by
 have h:z % 4 = 0∨z % 4 = 1∨z % 4 = 2∨z % 4 = 3:=by omega
 rcases h with h | h | h | h
 ·rw [h]; exact ⟨2,atI_nat (j:=0) rfl,by decide,by decide⟩
 ·rw [h]; exact ⟨4,atI_nat (j:=1) rfl,by decide,by decide⟩
 ·rw [h]; exact ⟨1000,atI_nat (j:=2) rfl,by decide,by decide⟩
 ·rw [h]; exact ⟨1,atI_nat (j:=3) rfl,by decide,by decide⟩
theorem pt_bd {a b sp:Int} (h1:1≤sp) (h2:sp≤1000):Bd (a % (2 * sp+1) - sp,b % (2 * sp+1) - sp):=by
 have a1:=Int.emod_nonneg a (show (2 * sp+1) ≠ 0 by omega)
 have a2:=Int.emod_lt_of_pos a (show 0 < 2 * sp+1 by omega)
 have b1:=Int.emod_nonneg b (show (2 * sp+1) ≠ 0 by omega)
 have b2:=Int.emod_lt_of_pos b (show 0 < 2 * sp+1 by omega)
 generalize a % (2 * sp+1) = x at *
 generalize b % (2 * sp+1) = y at *
 refine ⟨?_,?_,?_,?_⟩ <;> dsimp only <;> omega
theorem ac_bd {p:Pt} {z:Int} (h:Bd p):Bd (p.1,(z % 3 - 1) * p.1):=by
 have e:z % 3 - 1 = -1∨z % 3 - 1 = 0∨z % 3 - 1 = 1:=by omega
 obtain ⟨h1,h2,_,_⟩:=h
 rcases e with e | e | e <;> rw [e] <;> refine ⟨h1,h2,?_,?_⟩ <;> dsimp only <;> omega
theorem cs_nd:((["point","across"]:List Str)).Nodup:=by decide +kernel
theorem ok_pts {f g h:Addr} {fd gd hd:FuncData} (F:Fun K "_law_points" "_law_points" sPts f fd) (T:Txt mg) (G:FnOk P w K mg base CX0 1 g gd ["script","k"] (spCell K)) (bG:Binds K gd ["script","k"] []) (kG:PySem.W.keepIn K (.ref g) = true) (mG:mg "_law_cell_at" = some (.ref g))
  (R:FnOk P w K mg base CX0 1 h hd ["seed"] spNext) (bR:Binds K hd ["seed"] []) (kR:PySem.W.keepIn K (.ref h) = true) (mR:mg "_law_next" = some (.ref h)) :
  FnOk P w K mg base CX0 2 f fd ["script","at","most"] (spPts K):=by
 refine F.ok scPts (fun vs H Q E h=>?_) (fun cdv A outer s H vs Q E hr h=>?_)
 ·obtain ⟨a,ns,i,m,rfl,_⟩:=h; rfl
 ·obtain ⟨a,ns,i,m,rfl,hq,i0,m0,m1,k⟩:=h
  refine ⟨_,pss_cons (ps_set (i:=3) scPts.nd rfl (Or.inl rfl) (pe_op op_mod (pe_call G hr rfl mG kG bG .nil pass0 (pa_cons (pv 0) (pa_cons (pv 1) pa_nil))) (pe_op op_add (pv 2) pe_int)))
   (pss_cons (ps_set (i:=4) scPts.nd rfl (Or.inl rfl) (pe_ix ix_list (pe_lst (pa_cons pe_int (pa_cons pe_int (pa_cons pe_int (pa_cons pe_int pa_nil))))) (pe_op op_mod (pe_call G hr rfl mG kG bG .nil pass0 (pa_cons (pv 0) (pa_cons (pe_op op_add (pv 1) pe_int) pa_nil))) pe_int) (fun _ _=>rfl)))
   (pss_cons (ps_set (i:=5) scPts.nd rfl (Or.inl rfl) (pe_lst pa_nil))
   (pss_cons (ps_for PassesOwn.never rfl (pi_range1 rfl T.range (pa_cons (pv 3) pa_nil)) (pg_name (i:=6) scPts.nd rfl (Or.inl rfl))
    (pss_cons (ps_set (i:=7) scPts.nd rfl (Or.inl rfl) (pe_call R hr rfl mR kR bR .nil pass0 (pa_cons (pe_op op_add (pe_call G hr rfl mG kG bG .nil pass0 (pa_cons (pv 0) (pa_cons (pe_op op_add (pe_op op_add (pv 1) pe_int) (pe_op op_mod (pv 6) pe_int)) pa_nil))) (pe_op op_mul pe_int (pv 6))) pa_nil)))
    (pss_cons (ps_set (i:=8) scPts.nd rfl (Or.inl rfl) (pe_op op_add (pe_op op_mul pe_int (pv 4)) pe_int))
    (pss_one (ps_expr (pe_bm PySem.F.plainAttrs_list PySem.F.slot_list_append PySem.F.type_list_append mt_append (pv 5) (pa_cons (pe_tup (pa_cons (pe_op op_sub (pe_op op_mod (pe_op op_fdiv (pv 7) pe_int) (pv 8)) (pv 4)) (pa_cons (pe_op op_sub (pe_op op_mod (pe_op op_fdiv (pe_op op_fdiv (pv 7) pe_int) (pv 8)) (pv 8)) (pv 4)) pa_nil))) pa_nil)))))))
   (pss_cons (ps_if (pt_cmpR op_eq (pe_op op_mod (pe_op op_fdiv (pe_call G hr rfl mG kG bG .nil pass0 (pa_cons (pv 0) (pa_cons (pe_op op_add (pv 1) pe_int) pa_nil))) pe_int) pe_int) pe_int (nomark _))
    (pss_cons (ps_set (i:=9) scPts.nd rfl (Or.inr rfl) (pe_op op_sub (pe_op op_mod (pe_call G hr rfl mG kG bG .nil pass0 (pa_cons (pv 0) (pa_cons (pe_op op_add (pv 1) pe_int) pa_nil))) pe_int) pe_int))
    (pss_one (ps_setC (i:=5) scPts.nd rfl rfl cs_pts rfl (pi_list (pv 5)) (fun _ _ _ _ _=>pg_name (i:=0) cs_nd rfl (Or.inl rfl)) (fun _ _ _ _ _=>pif_nil)
     (fun _ _ _ _ _=>pe_tup (pa_cons (pe_ix (ixt (K':=K) rfl) (pv 0) pe_int (fun _ _=>rfl)) (pa_cons (pe_op op_mul (pv 1) (pe_ix (ixt (K':=K) rfl) (pv 0) pe_int (fun _ _=>rfl))) pa_nil))) rfl))) pss_nil)
   (pss_one (ps_ret (pv 5))))))),?_⟩
  refine ⟨_,rfl,_,rfl,a,ns,i,rfl,hq,i0,fun z1 hz1=>?_⟩
  refine ⟨_,rfl,_,_,rfl,rfl,_,_,rfl,rfl,(by show (0:Int) < m+1; omega),?_⟩
  have n1:=Int.emod_nonneg z1 (show m+1 ≠ 0 by omega)
  have n2:=Int.emod_lt_of_pos z1 (show 0 < m+1 by omega)
  refine ⟨(by show 4≤sizeLine; decide),fun l hl=>?_⟩
  have s1:Same H (upd H l (.lst [.int 2,.int 4,.int 1000,.int 1])):=same_upd (Same.refl H) hl
  refine ⟨_,rfl,_,rfl,_,_,rfl,rfl,a,ns,i+1,rfl,s1.seq hq,by omega,fun z2 _=>?_⟩
  obtain ⟨sp,e2,b1,b2⟩:=span_at z2
  refine ⟨_,_,rfl,rfl,(by show (0:Int) < 4; decide),l,_,_,_,rfl,rfl,SqL.of upd_same,e2,?_⟩
  refine ⟨(by show 0≤sizeLine; decide),fun r hr0=>?_⟩
  have hr1:H r = none:=s1.free hr0
  have s2:Same H (upd (upd H l (.lst [.int 2,.int 4,.int 1000,.int 1])) r (.lst [])):=same_upd s1 hr1
  refine ⟨_,rfl,z1 % (m+1),rfl,by omega,by omega,?_⟩
  refine for_range (n:=(z1 % (m+1)).toNat) (fun j σ H2=>∃ vk vs vw zs ps,σ = [some (.ref a),some (.int i),some (.int m),some (.int (z1 % (m+1))),some (.int sp),some (.ref r),vk,vs,vw,none]∧Same H H2∧H2 r = some (.lst zs)∧ArePts H2 zs ps∧ps.length = j∧∀ p ∈ ps,Bd p)
   ⟨none,none,none,[],[],rfl,s2,upd_same,.nil,rfl,fun p hp=>by simp at hp⟩ ?_ ?_
  ·rintro j σ H2 hj ⟨vk,vs,vw,zs,ps,rfl,s3,h3,hp,hl',hb⟩
   have lz:=hp.length
   refine ⟨_,rfl,_,rfl,_,_,rfl,rfl,_,rfl,_,_,rfl,rfl,(by show (0:Int) < 8; decide),_,_,rfl,rfl,a,ns,_,rfl,s3.seq hq,(by omega),fun z3 _=>?_⟩
   refine ⟨_,rfl,_,_,rfl,rfl,.inl ⟨by decide,by decide⟩,_,_,rfl,rfl,_,rfl,fun sd sd0 sd1=>?_⟩
   refine ⟨_,rfl,_,_,rfl,rfl,.inl ⟨by decide,by decide⟩,_,_,rfl,rfl,?_⟩
   have wp:(0:Int) < 2 * sp+1:=by omega
   refine ⟨_,rfl,.inl ⟨rfl,_,SqL.of h3⟩,?_⟩
   refine ⟨_,rfl,_,_,rfl,rfl,⟨by decide,by decide⟩,_,rfl,_,_,rfl,rfl,wp,_,rfl,_,_,rfl,rfl,?_⟩
   refine ⟨_,rfl,_,_,rfl,rfl,⟨by decide,by decide⟩,_,rfl,_,_,rfl,rfl,⟨wp,(by omega)⟩,_,rfl,_,_,rfl,rfl,wp,_,rfl,_,_,rfl,rfl,?_⟩
   refine ⟨(by show 2≤sizeLine; decide),fun t ht=>?_⟩
   have tr:r ≠ t:=ne_of_none h3 ht
   have h4:(upd H2 t (.tup [.int (sd / 7 % (2 * sp+1) - sp),.int (sd / 7 / (2 * sp+1) % (2 * sp+1) - sp)])) r = some (.lst zs):=by rw [upd_ne tr]; exact h3
   refine ⟨r,_,_,rfl,rfl,h4,small1000 (by omega),?_⟩
   refine ⟨_,_,_,_,ps++[(sd / 7 % (2 * sp+1) - sp,sd / 7 / (2 * sp+1) % (2 * sp+1) - sp)],rfl,same_upd (same_upd s3 (s3.free ht)) hr1,upd_same,?_,by simp [hl'],fun p hp'=>?_⟩
   ·refine Pair.append (ArePts.keep hp ((Keep.new ht _).trans (Keep.lst h4 _))) (.cons ⟨t,rfl,?_⟩ .nil)
    rw [upd_ne tr.symm,upd_same]
   ·rcases List.mem_append.mp hp' with z | z
    ·exact hb p z
    ·rw [List.mem_singleton] at z; rw [z]; exact pt_bd b1 b2
  ·rintro σ H2 ⟨vk,vs,vw,zs,ps,rfl,s3,h3,hp,hl',hb⟩
   have lz:=hp.length
   refine ⟨_,rfl,_,rfl,_,_,rfl,rfl,a,ns,_,rfl,s3.seq hq,by omega,fun z4 _=>?_⟩
   refine ⟨_,_,rfl,rfl,⟨by decide,by decide⟩,_,_,rfl,rfl,(by show (0:Int) < 5; decide),rfl,_,rfl,?_⟩
   refine ite2 (fun c=>?_) (fun c=>?_)
   ·refine ⟨_,rfl,_,rfl,_,_,rfl,rfl,a,ns,_,rfl,s3.seq hq,by omega,fun z5 _=>?_⟩
    refine ⟨_,_,rfl,rfl,(by show (0:Int) < 3; decide),_,_,rfl,rfl,?_⟩
    refine ⟨_,rfl,r,rfl,⟨_,SqL.of h3⟩,fun D hD=>?_⟩
    have sD:Same H2 (upd H2 D (.lst [])):=same_upd (Same.refl H2) hD
    refine comp_list (K:=K) (a:=r) (xs:=zs) (fun j σ' H'=>∃ v ys qs,σ' = [v,some (.int (z5 % 3 - 1))]∧Same H2 H'∧H' D = some (.lst ys)∧ArePts H' ys qs∧qs.length = j∧∀ q ∈ qs,Bd q)
     ⟨none,[],[],rfl,sD,upd_same,.nil,rfl,fun p hp=>by simp at hp⟩ (fun j σ' H' _ ⟨_,_,_,_,s4,_⟩=>s4.seq (SqL.of h3)) ?_ ?_
    ·rintro j x σ' H' hj ⟨v,ys,qs,rfl,s4,h4,hq4,l4,b4⟩
     obtain ⟨p,p1,p2⟩:=Pair.get hp hj
     have hjl:=(List.getElem?_eq_some_iff.mp hj).1
     have ly:=hq4.length
     obtain ⟨t,rfl,ht⟩:=IsPt.same p2 s4
     dsimp only [gName,tYes]
     refine iteT ?_
     have bp:Bd p:=hb p (List.mem_of_getElem? p1)
     refine ⟨_,rfl,t,_,_,_,rfl,rfl,SqT.of ht,atI_nat (j:=0) rfl,?_⟩
     refine ⟨_,rfl,_,rfl,t,_,_,_,rfl,rfl,SqT.of ht,atI_nat (j:=0) rfl,_,_,rfl,rfl,mulOk _ _ (by omega) (by omega),?_⟩
     refine ⟨(by show 2≤sizeLine; decide),fun u hu=>?_⟩
     have uD:D ≠ u:=ne_of_none h4 hu
     have h5:(upd H' u (.tup [.int p.1,.int ((z5 % 3 - 1) * p.1)])) D = some (.lst ys):=by rw [upd_ne uD]; exact h4
     refine ⟨ys,h5,small1000 (by omega),_,_,qs++[(p.1,(z5 % 3 - 1) * p.1)],rfl,same_upd (same_upd s4 (s4.free hu)) hD,upd_same,?_,by simp [l4],fun q hq'=>?_⟩
     ·refine Pair.append (ArePts.keep hq4 ((Keep.new hu _).trans (Keep.lst h5 _))) (.cons ⟨u,rfl,?_⟩ .nil)
      rw [upd_ne uD.symm,upd_same]
     ·rcases List.mem_append.mp hq' with z | z
      ·exact b4 q z
      ·rw [List.mem_singleton] at z; rw [z]; exact ac_bd bp
    ·rintro σ' H' ⟨v,ys,qs,rfl,s4,h4,hq4,l4,b4⟩
     refine ⟨_,rfl,k D ys qs H' (s3.free hD) (s3.trans s4) h4 hq4 (by rw [← hz1]; omega) (by omega) b4⟩
   ·exact ⟨_,rfl,k r zs ps H2 hr1 s3 h3 hp (by rw [← hz1]; exact hl') (by omega) hb⟩
end
end Toy
set_option maxRecDepth 100000
namespace Toy
open PySem L2 Geo
section
variable {P:Program} {w:World} {K:PySem.W.Frag} {mg:Str→Option Value} {base:Heap}
def spReach (K:PySem.W.Frag):Sp:=fun vs H Q _=>∃ u v w a b c,vs = [u,v,w]∧IsPt H u a∧IsPt H v b∧IsPtK K H w c∧Bw a∧Bw b∧Bw c∧Q (.int (reachM a b c)) H
theorem scReach:FnScope ["tail","head","point"] ["tail","head","point"] (defScope sReach):=⟨rfl,rfl,rfl,by decide +kernel,rfl,by decide +kernel,by decide +kernel⟩
theorem ok_reach {f:Addr} {fd:FuncData} (F:Fun K "reach" "reach" sReach f fd):FnOk P w K mg base CX0 1 f fd ["tail","head","point"] (spReach K):=by
 refine F.ok scReach (fun vs H Q E h=>?_) (fun cdv A outer s H vs Q E hr h=>?_)
 ·obtain ⟨u,v,w,a,b,c,rfl,_⟩:=h; rfl
 ·obtain ⟨u,v,w,a,b,c,rfl,⟨p,rfl,hp⟩,⟨q,rfl,hq⟩,⟨r,rfl,hr'⟩,ba,bb,bc,k⟩:=h
  refine ⟨_,pss_one (ps_ret (pe_op op_add
   (pe_op op_mul (pe_op op_sub (pe_ix ix_tup (pv 1) pe_int (fun _ _=>rfl)) (pe_ix ix_tup (pv 0) pe_int (fun _ _=>rfl))) (pe_op op_sub (pe_ix ix_tup (pv 2) pe_int (fun _ _=>rfl)) (pe_ix ix_tup (pv 0) pe_int (fun _ _=>rfl))))
   (pe_op op_mul (pe_op op_sub (pe_ix ix_tup (pv 1) pe_int (fun _ _=>rfl)) (pe_ix ix_tup (pv 0) pe_int (fun _ _=>rfl))) (pe_op op_sub (pe_ix ix_tup (pv 2) pe_int (fun _ _=>rfl)) (pe_ix ix_tup (pv 0) pe_int (fun _ _=>rfl)))))),?_⟩
  have m1:CMul (b.1 - a.1) (c.1 - a.1):=mulW _ _ _ ba.1 ba.2.1 bb.1 bb.2.1
  have m2:CMul (b.2 - a.2) (c.2 - a.2):=mulW _ _ _ ba.2.2.1 ba.2.2.2 bb.2.2.1 bb.2.2.2
  refine ⟨_,rfl,q,_,_,_,rfl,rfl,SqT.of hq,atI_nat (j:=0) rfl,_,rfl,p,_,_,_,rfl,rfl,SqT.of hp,atI_nat (j:=0) rfl,_,_,rfl,rfl,?_⟩
  refine ⟨_,rfl,r,_,_,_,rfl,rfl,hr',atI_nat (j:=0) rfl,_,rfl,p,_,_,_,rfl,rfl,SqT.of hp,atI_nat (j:=0) rfl,_,_,rfl,rfl,?_⟩
  refine ⟨_,_,rfl,rfl,m1,?_⟩
  refine ⟨_,rfl,q,_,_,_,rfl,rfl,SqT.of hq,atI_nat (j:=1) rfl,_,rfl,p,_,_,_,rfl,rfl,SqT.of hp,atI_nat (j:=1) rfl,_,_,rfl,rfl,?_⟩
  refine ⟨_,rfl,r,_,_,_,rfl,rfl,hr',atI_nat (j:=1) rfl,_,rfl,p,_,_,_,rfl,rfl,SqT.of hp,atI_nat (j:=1) rfl,_,_,rfl,rfl,?_⟩
  exact ⟨_,_,rfl,rfl,m2,_,_,rfl,rfl,k⟩
def spWorth (K:PySem.W.Frag):Sp:=fun vs H Q _=>∃ u v l p,vs = [u,v]∧IsTri H u l∧IsPtK K H v p∧Bw p∧Q (.int (wrt l p)) H
theorem scWorth:FnScope ["line","point"] ["line","point"] (defScope sWorth):=⟨rfl,rfl,rfl,by decide +kernel,rfl,by decide +kernel,by decide +kernel⟩
theorem ok_worth {f:Addr} {fd:FuncData} (F:Fun K "worth" "worth" sWorth f fd):FnOk P w K mg base CX0 1 f fd ["line","point"] (spWorth K):=by
 refine F.ok scWorth (fun vs H Q E h=>?_) (fun cdv A outer s H vs Q E hr h=>?_)
 ·obtain ⟨u,v,l,p,rfl,_⟩:=h; rfl
 ·obtain ⟨u,v,l,p,rfl,⟨a,rfl,ha⟩,⟨b,rfl,hb⟩,bp,k⟩:=h
  refine ⟨_,pss_one (ps_ret (pe_op op_add (pe_op op_add
   (pe_op op_mul (pe_ix ix_tup (pv 0) pe_int (fun _ _=>rfl)) (pe_ix ix_tup (pv 1) pe_int (fun _ _=>rfl)))
   (pe_op op_mul (pe_ix ix_tup (pv 0) pe_int (fun _ _=>rfl)) (pe_ix ix_tup (pv 1) pe_int (fun _ _=>rfl))))
   (pe_ix ix_tup (pv 0) pe_int (fun _ _=>rfl)))),?_⟩
  refine ⟨_,rfl,a,_,_,_,rfl,rfl,SqT.of ha,atI_nat (j:=0) rfl,_,rfl,b,_,_,_,rfl,rfl,hb,atI_nat (j:=0) rfl,_,_,rfl,rfl,mulR _ _ bp.1 bp.2.1,?_⟩
  refine ⟨_,rfl,a,_,_,_,rfl,rfl,SqT.of ha,atI_nat (j:=1) rfl,_,rfl,b,_,_,_,rfl,rfl,hb,atI_nat (j:=1) rfl,_,_,rfl,rfl,mulR _ _ bp.2.2.1 bp.2.2.2,?_⟩
  exact ⟨_,_,rfl,rfl,_,rfl,a,_,_,_,rfl,rfl,SqT.of ha,atI_nat (j:=2) rfl,_,_,rfl,rfl,k⟩
def spAlong:Sp:=fun vs H Q _=>∃ u v a b,vs = [u,v]∧IsPt H u a∧IsPt H v b∧Bw a∧Bw b∧∀ t,H t = none→Q (.ref t) (upd H t (.tup [.int (along a b).1,.int (along a b).2.1,.int (along a b).2.2]))
theorem scAlong:FnScope ["tail","head"] ["tail","head"] (defScope sAlong):=⟨rfl,rfl,rfl,by decide +kernel,rfl,by decide +kernel,by decide +kernel⟩
theorem ok_along {f:Addr} {fd:FuncData} (F:Fun K "line_along" "line_along" sAlong f fd):FnOk P w K mg base CX0 1 f fd ["tail","head"] spAlong:=by
 refine F.ok scAlong (fun vs H Q E h=>?_) (fun cdv A outer s H vs Q E hr h=>?_)
 ·obtain ⟨u,v,a,b,rfl,_⟩:=h; rfl
 ·obtain ⟨u,v,a,b,rfl,⟨p,rfl,hp⟩,⟨q,rfl,hq⟩,ba,bb,k⟩:=h
  refine ⟨_,pss_one (ps_ret (pe_tup (pa_cons (pe_op op_sub (pe_ix ix_tup (pv 0) pe_int (fun _ _=>rfl)) (pe_ix ix_tup (pv 1) pe_int (fun _ _=>rfl)))
   (pa_cons (pe_op op_sub (pe_ix ix_tup (pv 1) pe_int (fun _ _=>rfl)) (pe_ix ix_tup (pv 0) pe_int (fun _ _=>rfl)))
   (pa_cons (pe_op op_sub (pe_op op_mul (pe_ix ix_tup (pv 0) pe_int (fun _ _=>rfl)) (pe_ix ix_tup (pv 1) pe_int (fun _ _=>rfl))) (pe_op op_mul (pe_ix ix_tup (pv 0) pe_int (fun _ _=>rfl)) (pe_ix ix_tup (pv 1) pe_int (fun _ _=>rfl)))) pa_nil))))),?_⟩
  refine ⟨_,rfl,p,_,_,_,rfl,rfl,SqT.of hp,atI_nat (j:=1) rfl,_,rfl,q,_,_,_,rfl,rfl,SqT.of hq,atI_nat (j:=1) rfl,_,_,rfl,rfl,?_⟩
  refine ⟨_,rfl,q,_,_,_,rfl,rfl,SqT.of hq,atI_nat (j:=0) rfl,_,rfl,p,_,_,_,rfl,rfl,SqT.of hp,atI_nat (j:=0) rfl,_,_,rfl,rfl,?_⟩
  refine ⟨_,rfl,p,_,_,_,rfl,rfl,SqT.of hp,atI_nat (j:=0) rfl,_,rfl,q,_,_,_,rfl,rfl,SqT.of hq,atI_nat (j:=1) rfl,_,_,rfl,rfl,mulL _ _ ba.1 ba.2.1,?_⟩
  refine ⟨_,rfl,p,_,_,_,rfl,rfl,SqT.of hp,atI_nat (j:=1) rfl,_,rfl,q,_,_,_,rfl,rfl,SqT.of hq,atI_nat (j:=0) rfl,_,_,rfl,rfl,mulL _ _ ba.2.2.1 ba.2.2.2,?_⟩
  exact ⟨_,_,rfl,rfl,(by show 3≤sizeLine; decide),fun t ht=>k t ht⟩
def spAcross (K:PySem.W.Frag):Sp:=fun vs H Q _=>∃ u v a b,vs = [u,v]∧IsPtK K H u a∧IsPt H v b∧Bw a∧Bw b∧∀ t,H t = none→Q (.ref t) (upd H t (.tup [.int (across a b).1,.int (across a b).2.1,.int (across a b).2.2]))
theorem scAcross:FnScope ["tail","head","a","b"] ["tail","head"] (defScope sAcross):=⟨rfl,rfl,rfl,by decide +kernel,rfl,by decide +kernel,by decide +kernel⟩
theorem ok_across {f:Addr} {fd:FuncData} (F:Fun K "line_across" "line_across" sAcross f fd):FnOk P w K mg base CX0 1 f fd ["tail","head"] (spAcross K):=by
 refine F.ok scAcross (fun vs H Q E h=>?_) (fun cdv A outer s H vs Q E hr h=>?_)
 ·obtain ⟨u,v,a,b,rfl,_⟩:=h; rfl
 ·obtain ⟨u,v,a,b,rfl,⟨p,rfl,hp⟩,⟨q,rfl,hq⟩,ba,bb,k⟩:=h
  refine ⟨_,pss_cons (ps_set (i:=2) scAcross.nd rfl (Or.inl rfl) (pe_op op_sub (pe_ix ix_tup (pv 1) pe_int (fun _ _=>rfl)) (pe_ix ix_tup (pv 0) pe_int (fun _ _=>rfl))))
   (pss_cons (ps_set (i:=3) scAcross.nd rfl (Or.inl rfl) (pe_op op_sub (pe_ix ix_tup (pv 1) pe_int (fun _ _=>rfl)) (pe_ix ix_tup (pv 0) pe_int (fun _ _=>rfl))))
   (pss_one (ps_ret (pe_tup (pa_cons (pv 2) (pa_cons (pv 3) (pa_cons (pe_op op_sub (pe_op op_mul (pe_un un_neg (pv 2)) (pe_ix ix_tup (pv 1) pe_int (fun _ _=>rfl))) (pe_op op_mul (pv 3) (pe_ix ix_tup (pv 1) pe_int (fun _ _=>rfl)))) pa_nil))))))),?_⟩
  refine ⟨_,rfl,q,_,_,_,rfl,rfl,SqT.of hq,atI_nat (j:=0) rfl,_,rfl,p,_,_,_,rfl,rfl,hp,atI_nat (j:=0) rfl,_,_,rfl,rfl,?_⟩
  refine ⟨_,rfl,q,_,_,_,rfl,rfl,SqT.of hq,atI_nat (j:=1) rfl,_,rfl,p,_,_,_,rfl,rfl,hp,atI_nat (j:=1) rfl,_,_,rfl,rfl,?_⟩
  refine ⟨_,rfl,_,rfl,_,rfl,_,rfl,_,rfl,q,_,_,_,rfl,rfl,SqT.of hq,atI_nat (j:=0) rfl,_,_,rfl,rfl,mulR _ _ bb.1 bb.2.1,?_⟩
  refine ⟨_,rfl,_,rfl,q,_,_,_,rfl,rfl,SqT.of hq,atI_nat (j:=1) rfl,_,_,rfl,rfl,mulR _ _ bb.2.2.1 bb.2.2.2,?_⟩
  exact ⟨_,_,rfl,rfl,(by show 3≤sizeLine; decide),fun t ht=>k t ht⟩
def spGcd:Sp:=fun vs H Q _=>∃ a b:Int,vs = [.int a,.int b]∧0≤a∧0≤b∧Q (.int (Int.gcd a b:Nat)) H
theorem scGcd:FnScope ["one","other","rest"] ["one","other"] (defScope sGcd):=⟨rfl,rfl,rfl,by decide +kernel,rfl,by decide +kernel,by decide +kernel⟩
theorem ok_gcd {f:Addr} {fd:FuncData} (F:Fun K "greatest_divisor" "greatest_divisor" sGcd f fd):FnOk P w K mg base CX0 1 f fd ["one","other"] spGcd:=by
 refine F.ok scGcd (fun vs H Q E h=>?_) (fun cdv A outer s H vs Q E hr h=>?_)
 ·obtain ⟨a,b,rfl,_⟩:=h; rfl
 ·obtain ⟨a,b,rfl,ha,hb,k⟩:=h
  refine ⟨_,pss_cons (ps_while PassesOwn.never (pt_cmpR op_gt (pv 1) pe_int (nomark _))
    (pss_cons (ps_set (i:=2) scGcd.nd rfl (Or.inl rfl) (pe_op op_mod (pv 0) (pv 1)))
    (pss_cons (ps_set (i:=0) scGcd.nd rfl (Or.inl rfl) (pv 1))
    (pss_one (ps_set (i:=1) scGcd.nd rfl (Or.inl rfl) (pv 2))))))
   (pss_one (ps_ret (pv 0))),?_⟩
  refine ⟨fun m σ' H3=>∃ x y v,σ' = [some (.int x),some (.int y),v]∧H3 = H∧m = y.toNat∧0≤x∧0≤y∧Int.gcd x y = Int.gcd a b,⟨_,a,b,none,rfl,rfl,rfl,ha,hb,rfl⟩,?_⟩
  rintro m σ' H3 ⟨x,y,v,rfl,rfl,rfl,hx,hy,e⟩
  refine ⟨_,rfl,_,_,rfl,rfl,_,rfl,?_⟩
  by_cases hy0:0 < y
  ·rw [decide_eq_true hy0]
   refine iteT ⟨fun σ4 H4=>∃ v,σ4 = [some (.int y),some (.int (x % y)),v]∧H4 = H3,fun σ4 H4 ⟨v,e4,e5⟩=>⟨(x % y).toNat,?_,y,x % y,v,e4,e5,rfl,hy,Int.emod_nonneg _ (by omega),?_⟩,?_⟩
   ·have:=Int.emod_lt_of_pos x hy0
    have:=Int.emod_nonneg x (show y ≠ 0 by omega)
    omega
   ·rw [gcd_step hx hy0]; exact e
   ·exact ⟨_,rfl,_,rfl,_,_,rfl,rfl,hy0,_,rfl,_,rfl,_,rfl,rfl⟩
  ·rw [decide_eq_false hy0]
   refine iteF ⟨_,rfl,?_⟩
   have y0:y = 0:=by omega
   subst y0
   have:=gcd_zero hx
   rw [← e,this] at k
   exact k
end
end Toy
set_option maxRecDepth 100000
namespace Toy
open PySem L2 Geo
section
variable {P:Program} {w:World} {K:PySem.W.Frag} {mg:Str→Option Value} {base:Heap}
abbrev n_sWeigh:List Str:=["shares","whole","weights","number","share","common"]
def spWeigh (K:PySem.W.Frag):Sp:=fun vs H Q _=>∃ a zs prs,vs = [.ref a]∧SqL K H a zs∧ArePts H zs prs∧prs.length≤16∧(∀ q ∈ prs,0≤q.2)∧0 < (prs.map (·.2)).sum∧(prs.map (·.2)).sum≤64000000 ∧
 ∀ r ws H',H r = none→Same H H'→H' r = some (.lst ws)→AreTri H' ws (weighM (prs.map (·.2)).sum (sortP prs))→Q (.ref r) H'
theorem scWeigh:FnScope n_sWeigh ["shares"] (defScope sWeigh):=⟨rfl,rfl,rfl,by decide +kernel,rfl,by decide +kernel,by decide +kernel⟩
abbrev c_weigh:Scope:={ kind:=.function,names:=[(".0",.local),("number",.local),("share",.local)],isGenerator:=false,isCoroutine:=false }
theorem cs_weigh {cdv:Value} {A:Around} {outer:List Env} {s:Shared} {H:Hp} {E:XK} {f:Addr}:CompScope (cxOf CX0 P w K mg base n_sWeigh "weighing" (defScope sWeigh) f cdv A outer s H E).nox c_weigh ["number","share"] [none,none] where
 kind:=rfl
 nocell:=by decide +kernel
 names:=by decide +kernel
 frees:=by show ∀ z ∈ c_weigh.names,z.2 = .free→(defScope sWeigh).names.lookup z.1 = some .cell; decide +kernel
 nd:=by decide +kernel
 len:=rfl
 cap:=fun i j h=>match i,h with
  | 0,h=>by simp at h
  | 1,h=>by simp at h
  | n+2,h=>by simp at h
theorem nd_weigh:(["number","share"]:List Str).Nodup:=by decide +kernel
theorem gcd_lt {a b:Int} (hb:0 < b) (h:b≤64000000):((Int.gcd a b:Nat):Int) < 1073741824:=by
 have:=Int.le_of_dvd hb (Int.gcd_dvd_right a b)
 omega
theorem weighM_snoc {W:Int} {l:List Pt} {q:Pt}:weighM W (l++[q]) = if 0 < q.2 then weighM W l++[wgt W q] else weighM W l:=by
 unfold weighM
 rw [List.filter_append,List.map_append]
 by_cases h:0 < q.2
 ·rw [if_pos h]; simp [h]
 ·rw [if_neg h]; simp [h]
theorem weighM_le {W:Int} {l:List Pt}:(weighM W l).length≤l.length:=by
 unfold weighM; rw [List.length_map]; exact List.length_filter_le _ _
theorem ok_weigh {f g:Addr} {fd gd:FuncData} (F:Fun K "weighing" "weighing" sWeigh f fd) (T:Txt mg) (G:FnOk P w K mg base CX0 1 g gd ["one","other"] spGcd) (bG:Binds K gd ["one","other"] []) (kG:PySem.W.keepIn K (.ref g) = true) (mG:mg "greatest_divisor" = some (.ref g)) :
  FnOk P w K mg base CX0 2 f fd ["shares"] (spWeigh K):=by
 refine F.ok scWeigh (fun vs H Q E h=>?_) (fun cdv A outer s H vs Q E hr h=>?_)
 ·obtain ⟨a,zs,prs,rfl,_⟩:=h; rfl
 ·obtain ⟨a,zs,prs,rfl,hq,hp,hl,nn,pos,lt,k⟩:=h
  have hu:(A.deeper (PyProof.Rows.envOfC "weighing" (defScope sWeigh) s.heap.objs.size f cdv)).units+16 < cLine:=by have:=hr.units; omega
  have lz:=hp.length
  refine ⟨_,pss_cons (ps_set (i:=1) scWeigh.nd rfl (Or.inl rfl) (pe_callB (call_sumL hr.hd) rfl T.sum PyProof.Rows.boot_sum (pa_cons (pe_comp cs_weigh rfl (pi_list (pv 0))
    (fun _ _ _ _ _=>pgt (K':=K) rfl (pg_tup (n:=2) rfl (pgs_cons (pg_name (i:=0) nd_weigh rfl (Or.inl rfl)) (pgs_cons (pg_name (i:=1) nd_weigh rfl (Or.inl rfl)) pgs_nil)))) (fun _ _ _ _ _=>pif_nil) (fun _ _ _ _ _=>pv 1)) pa_nil)))
   (pss_cons (ps_set (i:=2) scWeigh.nd rfl (Or.inl rfl) (pe_lst pa_nil))
   (pss_cons (ps_for PassesOwn.never rfl (pi_list (pe_callB (call_sortedP hu) rfl T.sorted PyProof.Rows.boot_sorted (pa_cons (pv 0) pa_nil))) (pg_tup (n:=2) rfl (pgs_cons (pg_name (i:=3) scWeigh.nd rfl (Or.inl rfl)) (pgs_cons (pg_name (i:=4) scWeigh.nd rfl (Or.inl rfl)) pgs_nil)))
    (pss_one (ps_if (pt_cmpR op_gt (pv 4) pe_int (nomark _))
     (pss_cons (ps_set (i:=5) scWeigh.nd rfl (Or.inl rfl) (pe_call G hr rfl mG kG bG .nil pass0 (pa_cons (pv 4) (pa_cons (pv 1) pa_nil))))
     (pss_one (ps_expr (pe_bm PySem.F.plainAttrs_list PySem.F.slot_list_append PySem.F.type_list_append mt_append (pv 2) (pa_cons (pe_tup (pa_cons (pv 3) (pa_cons (pe_op op_fdiv (pv 4) (pv 5)) (pa_cons (pe_op op_fdiv (pv 1) (pv 5)) pa_nil)))) pa_nil))))) pss_nil)))
   (pss_one (ps_ret (pv 2))))),?_⟩
  refine ⟨_,rfl,a,rfl,⟨_,hq⟩,fun D hD=>?_⟩
  have sD:Same H (upd H D (.lst [])):=same_upd (Same.refl H) hD
  refine comp_list (K:=K) (a:=a) (xs:=zs) (fun j σ' H'=>∃ v1 v2,σ' = [v1,v2]∧Same H H'∧H' D = some (.lst (((prs.take j).map (·.2)).map V.int)))
   ⟨none,none,rfl,sD,upd_same⟩ (fun j σ' H' _ ⟨_,_,_,s4,_⟩=>s4.seq hq) ?_ ?_
  ·rintro j x σ' H' hj ⟨v1,v2,rfl,s4,h4⟩
   obtain ⟨p,p1,p2⟩:=Pair.get hp hj
   have hjl:=(List.getElem?_eq_some_iff.mp hj).1
   obtain ⟨t,rfl,ht⟩:=IsPt.same p2 s4
   refine ⟨t,_,rfl,SqT.of ht,rfl,_,_,rfl,_,_,rfl,rfl,?_⟩
   dsimp only [tYes]
   refine iteT ⟨_,rfl,_,h4,small1000 (by simp; omega),_,_,rfl,same_upd s4 hD,?_⟩
   rw [upd_same,take_snoc p1]
   simp
  ·rintro σ' H1 ⟨v1,v2,rfl,s1,h1⟩
   rw [List.take_of_length_le (by omega)] at h1
   refine ⟨D,_,rfl,SqL.of h1,?_⟩
   generalize hW:(prs.map (·.2)).sum = W at pos lt k ⊢
   refine ⟨(by show 0≤sizeLine; decide),fun r hr0=>?_⟩
   have hrn:H r = none:=s1.free hr0
   have s2:Same H (upd H1 r (.lst [])):=same_upd s1 hrn
   refine ⟨_,rfl,a,zs,prs,rfl,s2.seq hq,hp.same s2,by omega,fun l ys nl pl _=>?_⟩
   have s3:Same (upd H1 r (.lst [])) (upd (upd H1 r (.lst [])) l (.lst ys)):=same_upd (Same.refl _) nl
   have hln:H l = none:=s2.free nl
   have lys:=pl.length
   rw [sortP_length] at lys
   have s23:=s2.trans s3
   refine ⟨l,rfl,⟨_,SqL.of upd_same⟩,for_list (K:=K) (a:=l) (xs:=ys)
    (fun i σ H2=>∃ vn vs vc ws,σ = [some (.ref a),some (.int W),some (.ref r),vn,vs,vc]∧Same H H2∧H2 l = some (.lst ys)∧H2 r = some (.lst ws)∧ArePts H2 ys (sortP prs)∧AreTri H2 ws (weighM W ((sortP prs).take i)))
    ⟨none,none,none,[],by rw [← hW]; rfl,s23,upd_same,s3 _ _ upd_same,pl.same s3,.nil⟩ (fun i σ H2 _ ⟨_,_,_,_,_,_,h5,_⟩=>SqL.of h5) ?_ ?_⟩
   ·rintro i y σ H2 hi ⟨vn,vs,vc,ws,rfl,s5,h5,h6,p5,w5⟩
    obtain ⟨p,p1,p2⟩:=Pair.get p5 hi
    have hil:=(List.getElem?_eq_some_iff.mp hi).1
    have mp:p ∈ prs:=(sortP_perm prs).mem_iff.mp (List.mem_of_getElem? p1)
    have np:=nn p mp
    have lw:=w5.length
    have lw2:=weighM_le (W:=W) (l:=(sortP prs).take i)
    rw [List.length_take] at lw2
    obtain ⟨t,rfl,ht⟩:=p2
    refine ⟨t,_,rfl,SqT.of ht,rfl,_,_,rfl,_,_,rfl,rfl,?_⟩
    refine ⟨_,rfl,_,_,rfl,rfl,_,rfl,?_⟩
    by_cases hpos:0 < p.2
    ·rw [decide_eq_true hpos]
     refine iteT ⟨_,rfl,_,rfl,p.2,W,rfl,np,by omega,?_⟩
     have g0:(0:Int) < (Int.gcd p.2 W:Nat):=by have:=gcd_pos (a:=p.2) pos; omega
     have g1:=gcd_lt (a:=p.2) pos lt
     refine ⟨_,rfl,.inl ⟨rfl,_,SqL.of h6⟩,_,rfl,_,rfl,_,rfl,_,_,rfl,rfl,⟨g0,g1⟩,_,rfl,_,rfl,_,_,rfl,rfl,⟨g0,g1⟩,(by show 3≤sizeLine; decide),fun u hu0=>?_⟩
     have s6:=same_upd (o:=.tup [.int p.1,.int (p.2 / (Int.gcd p.2 W:Nat)),.int (W / (Int.gcd p.2 W:Nat))]) (Same.refl H2) hu0
     refine ⟨r,_,_,rfl,rfl,s6 _ _ h6,small1000 (by omega),?_⟩
     have nlr:l ≠ r:=fun e=>by subst e; rw [upd_same] at nl; cases nl
     have kp:Keep H2 (upd (upd H2 u (.tup [.int p.1,.int (p.2 / (Int.gcd p.2 W:Nat)),.int (W / (Int.gcd p.2 W:Nat))])) r (.lst (ws++[.ref u]))):=(Same.keep s6).trans (Keep.lst (s6 _ _ h6) _)
     refine ⟨_,_,_,_,rfl,same_upd (s5.trans s6) hrn,?_,upd_same,ArePts.keep p5 kp,?_⟩
     ·rw [upd_ne nlr]; exact s6 _ _ h5
     ·rw [take_snoc p1,weighM_snoc,if_pos hpos]
      refine Pair.append (AreTri.keep w5 kp) (.cons ⟨u,rfl,?_⟩ .nil)
      have:u ≠ r:=fun e=>by subst e; rw [h6] at hu0; cases hu0
      rw [upd_ne this,upd_same]; rfl
    ·rw [decide_eq_false hpos]
     refine iteF ⟨_,_,_,ws,rfl,s5,h5,h6,p5,?_⟩
     rw [take_snoc p1,weighM_snoc,if_neg hpos]; exact w5
   ·rintro σ H2 ⟨vn,vs,vc,ws,rfl,s5,h5,h6,p5,w5⟩
    rw [List.take_of_length_le (by rw [sortP_length]; omega)] at w5
    exact ⟨_,rfl,k r ws H2 hrn s5 h6 w5⟩
end
end Toy
set_option maxRecDepth 100000
namespace Toy
open PySem L2 Geo
section
variable {P:Program} {w:World} {K:PySem.W.Frag} {mg:Str→Option Value} {base:Heap}
abbrev n_sShut:List Str:=["ends","point","edges","fronts","line"]
def spShut (K:PySem.W.Frag):Sp:=fun vs H Q _=>∃ a xs R v p,vs = [.ref a,v]∧SqL K H a xs∧ArePts H xs R∧R.length≤200∧(∀ q ∈ R,Bd2 q)∧IsPtK K H v p∧Bd2 p ∧
 (∀ t l H',Same H H'→IsTri H' (.ref t) l→Out R p l→Q (.ref t) H')∧(∀ H',Same H H'→NoShut R p→Q .non H')
theorem scShut:FnScope n_sShut ["ends","point"] (defScope sShut):=⟨rfl,rfl,rfl,by decide +kernel,rfl,by decide +kernel,by decide +kernel⟩
abbrev c_shutE:Scope:={ kind:=.function,names:=[(".0",.local),("tail",.local),("head",.local),("line_along",.globalImplicit)],isGenerator:=false,isCoroutine:=false }
theorem cs_shutE {cdv:Value} {A:Around} {outer:List Env} {s:Shared} {H:Hp} {E:XK} {f:Addr}:CompScope (cxOf CX0 P w K mg base n_sShut "shutting_line" (defScope sShut) f cdv A outer s H E).nox c_shutE ["tail","head"] [none,none] where
 kind:=rfl
 nocell:=by decide +kernel
 names:=by decide +kernel
 frees:=by show ∀ z ∈ c_shutE.names,z.2 = .free→(defScope sShut).names.lookup z.1 = some .cell; decide +kernel
 nd:=by decide +kernel
 len:=rfl
 cap:=fun i j h=>match i,h with
  | 0,h=>by simp at h
  | 1,h=>by simp at h
  | n+2,h=>by simp at h
theorem nd_shutE:(["tail","head"]:List Str).Nodup:=by decide +kernel
abbrev c_shutF:Scope:={ kind:=.function,names:=[(".0",.local),("end",.local),("line_across",.globalImplicit),("point",.free)],isGenerator:=false,isCoroutine:=false }
theorem cs_shutF {cdv:Value} {A:Around} {outer:List Env} {s:Shared} {H:Hp} {E:XK} {f:Addr}:CompScope (cxOf CX0 P w K mg base n_sShut "shutting_line" (defScope sShut) f cdv A outer s H E).nox c_shutF ["end","point"] [none,some 1] where
 kind:=rfl
 nocell:=by decide +kernel
 names:=by decide +kernel
 frees:=by show ∀ z ∈ c_shutF.names,z.2 = .free→(defScope sShut).names.lookup z.1 = some .cell; decide +kernel
 nd:=by decide +kernel
 len:=rfl
 cap:=fun i j h=>match i,h with
  | 0,h=>by simp at h
  | 1,h=>by
   simp at h; subst h
   exact ⟨"point",rfl,rfl,by decide +kernel,rfl,.inl rfl⟩
  | n+2,h=>by simp at h
theorem nd_shutF:(["end","point"]:List Str).Nodup:=by decide +kernel
abbrev c_shutA:Scope:={ kind:=.function,names:=[(".0",.local),("end",.local),("worth",.globalImplicit),("line",.free)],isGenerator:=false,isCoroutine:=false }
theorem cs_shutA {cdv:Value} {A:Around} {outer:List Env} {s:Shared} {H:Hp} {E:XK} {f:Addr}:CompScope (cxOf CX0 P w K mg base n_sShut "shutting_line" (defScope sShut) f cdv A outer s H E).nox c_shutA ["end","line"] [none,some 4] where
 kind:=rfl
 nocell:=by decide +kernel
 names:=by decide +kernel
 frees:=by show ∀ z ∈ c_shutA.names,z.2 = .free→(defScope sShut).names.lookup z.1 = some .cell; decide +kernel
 nd:=by decide +kernel
 len:=rfl
 cap:=fun i j h=>match i,h with
  | 0,h=>by simp at h
  | 1,h=>by
   simp at h; subst h
   exact ⟨"line",rfl,rfl,by decide +kernel,rfl,.inl rfl⟩
  | n+2,h=>by simp at h
theorem nd_shutA:(["end","line"]:List Str).Nodup:=by decide +kernel
theorem rot_pts {H:Hp} {xs:List V} {R:List Pt} (h:ArePts H xs R):ArePts H (cutV xs (some 1) none++cutV xs none (some 1)) (rot1 R):=by
 rw [cut_tail,cut_one]; exact Pair.append (Pair.drop 1 h) (Pair.take 1 h)
theorem rot1_len (R:List Pt):(rot1 R).length = R.length:=by
 unfold rot1; cases R with
 | nil=>rfl
 | cons a r=>simp
theorem edge_at {R:List Pt} {i:Nat} {x y:Pt} (hx:R[i]? = some x) (hy:(rot1 R)[i]? = some y):(edgesM R)[i]? = some (along x y):=by
 unfold edgesM
 rw [List.getElem?_map,show (R.zip (rot1 R))[i]? = some (x,y) from List.getElem?_zip_eq_some.mpr ⟨hx,hy⟩]; rfl
theorem edges_len (R:List Pt):(edgesM R).length = R.length:=by unfold edgesM; rw [List.length_map,List.length_zip,rot1_len]; omega
theorem all_map {α:Type} {f:α→Bool} {l:List α}:(l.map f).all id = true↔∀ x ∈ l,f x = true:=by
 rw [List.all_eq_true]
 constructor
 ·intro h x hx; exact h (f x) (List.mem_map.mpr ⟨x,hx,rfl⟩)
 ·intro h b hb
  obtain ⟨x,hx,rfl⟩:=List.mem_map.mp hb
  exact h x hx
theorem ok_shut {f g1 g2 g3:Addr} {fd d1 d2 d3:FuncData} (F:Fun K "shutting_line" "shutting_line" sShut f fd) (T:Txt mg)
  (AL:FnOk P w K mg base CX0 1 g1 d1 ["tail","head"] spAlong) (b1:Binds K d1 ["tail","head"] []) (k1:PySem.W.keepIn K (.ref g1) = true) (m1:mg "line_along" = some (.ref g1))
  (AC:FnOk P w K mg base CX0 1 g2 d2 ["tail","head"] (spAcross K)) (b2:Binds K d2 ["tail","head"] []) (k2:PySem.W.keepIn K (.ref g2) = true) (m2:mg "line_across" = some (.ref g2))
  (WO:FnOk P w K mg base CX0 1 g3 d3 ["line","point"] (spWorth K)) (b3:Binds K d3 ["line","point"] []) (k3:PySem.W.keepIn K (.ref g3) = true) (m3:mg "worth" = some (.ref g3)) :
  FnOk P w K mg base CX0 2 f fd ["ends","point"] (spShut K):=by
 refine F.ok scShut (fun vs H Q E h=>?_) (fun cdv A outer s H vs Q E hr h=>?_)
 ·obtain ⟨a,xs,R,v,p,rfl,_⟩:=h; rfl
 ·obtain ⟨a,xs,R,v,p,rfl,hq,hp,hl,bR,hv,bp,kL,kN⟩:=h
  have lx:=hp.length
  refine ⟨_,pss_cons (ps_if (pt_cmpR op_eq (pe_callB call_len_seq rfl T.len PySem.boot_len (pa_cons (pv 0) pa_nil)) pe_int (nomark _)) (pss_one (ps_ret (pe_tup (pa_cons pe_int (pa_cons pe_int (pa_cons (pe_op op_sub (pe_un un_neg pe_int) (pe_ix ix_tup (pv 1) pe_int (fun _ _=>rfl))) pa_nil)))))) pss_nil)
   (pss_cons (ps_setC (i:=2) scShut.nd rfl rfl cs_shutE rfl (pi_zip rfl T.zip (pa_cons (pv 0) (pa_cons (pe_op op_cat (pe_slice sl_list (pv 0) (po_some pe_int) po_none) (pe_slice sl_list (pv 0) po_none (po_some pe_int))) pa_nil)))
    (fun _ _ _ _ _=>pgt (K':=K) rfl (pg_tup (n:=2) rfl (pgs_cons (pg_name (i:=0) nd_shutE rfl (Or.inl rfl)) (pgs_cons (pg_name (i:=1) nd_shutE rfl (Or.inl rfl)) pgs_nil)))) (fun _ _ _ _ _=>pif_nil)
    (fun _ _ _ _ _=>pe_call AL hr rfl m1 k1 b1 .nil pass0 (pa_cons (pv 0) (pa_cons (pv 1) pa_nil))) rfl)
   (pss_cons (ps_setC (i:=3) scShut.nd rfl rfl cs_shutF rfl (pi_list (pv 0)) (fun _ _ _ _ _=>pg_name (i:=0) nd_shutF rfl (Or.inl rfl)) (fun _ _ _ _ _=>pif_nil)
    (fun _ _ _ _ _=>pe_call AC hr rfl m2 k2 b2 .nil pass0 (pa_cons (pv 1) (pa_cons (pv 0) pa_nil))) rfl)
   (pss_cons (ps_for PassesOwn.never rfl (pi_list (pe_op op_cat (pv 2) (pv 3))) (pg_name (i:=4) scShut.nd rfl (Or.inr rfl))
    (pss_one (ps_if (PW.pt (pw_and (pt_cmpR op_lt (pe_call WO hr rfl m3 k3 b3 .nil pass0 (pa_cons (pv 4) (pa_cons (pv 1) pa_nil))) pe_int (nomark _))
      (pw_and1 (pt_val (pe_callB (call_allL hr.hd) rfl T.all PyProof.Rows.boot_all (pa_cons (pe_comp cs_shutA rfl (pi_list (pv 0)) (fun _ _ _ _ _=>pg_name (i:=0) nd_shutA rfl (Or.inl rfl)) (fun _ _ _ _ _=>pif_nil)
       (fun _ _ _ _ _=>pe_cmpR op_ge (pe_call WO hr rfl m3 k3 b3 .nil pass0 (pa_cons (pv 1) (pa_cons (pv 0) pa_nil))) pe_int (nomark _))) pa_nil))))))
     (pss_one (ps_ret (pv 4))) pss_nil)))
   (pss_one (ps_ret pe_non))))),?_⟩
  refine ⟨_,rfl,a,_,rfl,.inl hq,rfl,_,rfl,?_⟩
  by_cases h0:R = []
  ·subst h0
   have:xs.length = 0:=by simpa using lx
   rw [show (decide (V.int (xs.length:Int) = V.int 0)) = true by rw [this]; rfl]
   obtain ⟨t,rfl,ht⟩:=hv
   refine iteT ⟨_,rfl,_,rfl,t,_,_,_,rfl,rfl,ht,atI_nat (j:=0) rfl,_,_,rfl,rfl,(by show 3≤sizeLine; decide),fun u hu=>?_⟩
   refine kL u (1,0,-1 - p.1) _ (same_upd (Same.refl H) hu) ⟨u,rfl,upd_same⟩ ⟨?_,fun q hq=>by simp at hq⟩
   unfold wrt; dsimp only; omega
  ·have lR:0 < R.length:=List.length_pos_iff.mpr h0
   rw [decide_eq_false (show ¬ V.int (xs.length:Int) = V.int 0 from fun e=>by have:=V.int.inj e; omega)]
   refine iteF ?_
   refine ⟨_,rfl,_,rfl,_,rfl,a,_,rfl,hq,fun r1 n1=>?_⟩
   have t1:=same_upd (o:=.lst (cutV xs (some 1) none)) (Same.refl H) n1
   refine ⟨_,rfl,_,rfl,a,_,rfl,t1.seq hq,fun r2 n2=>?_⟩
   have t2:=same_upd (o:=.lst (cutV xs none (some 1))) (Same.refl (upd H r1 (.lst (cutV xs (some 1) none)))) n2
   refine ⟨r1,r2,_,_,rfl,rfl,t2 _ _ upd_same,upd_same,(by rw [cut_tail,cut_one]; simp only [List.length_drop,List.length_take]; exact Nat.le_of_lt (small1000 (by omega))),fun r3 n3=>?_⟩
   have t3:=same_upd (o:=.lst (cutV xs (some 1) none++cutV xs none (some 1))) (Same.refl (upd (upd H r1 (.lst (cutV xs (some 1) none))) r2 (.lst (cutV xs none (some 1))))) n3
   have t13:=(t1.trans t2).trans t3
   have hr3:upd (upd (upd H r1 (.lst (cutV xs (some 1) none))) r2 (.lst (cutV xs none (some 1)))) r3 (.lst (cutV xs (some 1) none++cutV xs none (some 1))) r3 = some (.lst (cutV xs (some 1) none++cutV xs none (some 1))):=upd_same
   generalize (upd (upd (upd H r1 (.lst (cutV xs (some 1) none))) r2 (.lst (cutV xs none (some 1)))) r3 (.lst (cutV xs (some 1) none++cutV xs none (some 1)))) = Hc at t13 hr3
   clear t1 t2 t3
   have hrot:=rot_pts (hp.same t13)
   have lrot:=hrot.length
   rw [rot1_len] at lrot
   refine ⟨a,r3,rfl,⟨_,t13.seq hq⟩,⟨_,SqL.of hr3⟩,fun D hD=>?_⟩
   have sD:Same Hc (upd Hc D (.lst [])):=same_upd (Same.refl Hc) hD
   refine comp_zip (K:=K) (a:=a) (b:=r3) (xs:=xs) (ys:=cutV xs (some 1) none++cutV xs none (some 1)) (fun j σ' H'=>∃ v1 v2 es,σ' = [v1,v2]∧Same Hc H'∧H' D = some (.lst es)∧AreTri H' es ((edgesM R).take j))
    ⟨none,none,[],rfl,sD,upd_same,.nil⟩ (by omega) (fun j σ' H' _ ⟨_,_,_,_,s4,_⟩=>⟨s4.seq (t13.seq hq),s4.seq (SqL.of hr3)⟩) ?_ ?_
   ·rintro j x y TT σ' H' hx hy ⟨v1,v2,es,rfl,s4,h4,w4⟩ nT
    obtain ⟨px,px1,px2⟩:=Pair.get hp hx
    obtain ⟨py,py1,py2⟩:=Pair.get hrot hy
    have hjl:=(List.getElem?_eq_some_iff.mp hx).1
    have lw:=w4.length
    rw [List.length_take,edges_len] at lw
    have s5:=same_upd (o:=.tup [x,y]) (Same.refl H') nT
    have bpy:Bd2 py:=bR py (by
     have:=List.mem_of_getElem? py1
     unfold rot1 at this
     rcases List.mem_append.mp this with z | z
     ·exact List.mem_of_mem_drop z
     ·exact List.mem_of_mem_take z)
    refine ⟨TT,[x,y],rfl,SqT.of upd_same,rfl,_,_,rfl,_,_,rfl,rfl,?_⟩
    dsimp only [tYes]
    refine iteT ⟨_,rfl,_,rfl,x,y,px,py,rfl,px2.same (t13.trans (s4.trans s5)),py2.same (s4.trans s5),(bR px (List.mem_of_getElem? px1)).w,bpy.w,fun t nt=>?_⟩
    have s6:=same_upd (o:=.tup [.int (along px py).1,.int (along px py).2.1,.int (along px py).2.2]) (Same.refl (upd H' TT (.tup [x,y]))) nt
    have s56:=s5.trans s6
    have hDD:=s56 _ _ h4
    refine ⟨es,hDD,small1000 (by omega),_,_,_,rfl,same_upd (s4.trans s56) hD,upd_same,?_⟩
    rw [take_snoc (edge_at px1 py1)]
    refine Pair.append (AreTri.keep w4 ((Same.keep s56).trans (Keep.lst hDD _))) (.cons ⟨t,rfl,?_⟩ .nil)
    have:t ≠ D:=fun e=>by subst e; rw [s5 _ _ h4] at nt; cases nt
    rw [upd_ne this,upd_same]
   ·rintro σ' H1 ⟨v1,v2,es,rfl,s4,h4,w4⟩
    rw [List.take_of_length_le (by rw [edges_len]; omega)] at w4
    have u1:=t13.trans s4
    have le:=w4.length
    rw [edges_len] at le
    refine ⟨_,rfl,a,rfl,⟨_,u1.seq hq⟩,fun D2 hD2=>?_⟩
    have sD2:Same H1 (upd H1 D2 (.lst [])):=same_upd (Same.refl H1) hD2
    refine comp_list (K:=K) (a:=a) (xs:=xs) (fun j σ' H'=>∃ v1 fs,σ' = [v1,some v]∧Same H1 H'∧H' D2 = some (.lst fs)∧AreTri H' fs ((frontsM R p).take j))
     ⟨none,[],rfl,sD2,upd_same,.nil⟩ (fun j σ' H' _ ⟨_,_,_,s5,_⟩=>s5.seq (u1.seq hq)) ?_ ?_
    ·rintro j x σ' H' hx ⟨v1,fs,rfl,s5,h5,w5⟩
     obtain ⟨px,px1,px2⟩:=Pair.get hp hx
     have hjl:=(List.getElem?_eq_some_iff.mp hx).1
     have lw:=w5.length
     rw [List.length_take] at lw
     dsimp only [gName,tYes]
     refine iteT ⟨_,rfl,_,rfl,v,x,p,px,rfl,hv.same (u1.trans s5),px2.same (u1.trans s5),bp.w,(bR px (List.mem_of_getElem? px1)).w,fun t nt=>?_⟩
     have s6:=same_upd (o:=.tup [.int (across p px).1,.int (across p px).2.1,.int (across p px).2.2]) (Same.refl H') nt
     have hDD:=s6 _ _ h5
     refine ⟨fs,hDD,small1000 (by omega),_,_,rfl,same_upd (s5.trans s6) hD2,upd_same,?_⟩
     rw [take_snoc (show (frontsM R p)[j]? = some (across p px) by unfold frontsM; rw [List.getElem?_map,px1]; rfl)]
     refine Pair.append (AreTri.keep w5 ((Same.keep s6).trans (Keep.lst hDD _))) (.cons ⟨t,rfl,?_⟩ .nil)
     have:t ≠ D2:=fun e=>by subst e; rw [h5] at nt; cases nt
     rw [upd_ne this,upd_same]
    ·rintro σ' H2 ⟨v1,fs,rfl,s5,h5,w5⟩
     have lf:(frontsM R p).length = R.length:=by unfold frontsM; rw [List.length_map]
     rw [List.take_of_length_le (by omega)] at w5
     have u2:=u1.trans s5
     have lf2:=w5.length
     refine ⟨_,rfl,_,rfl,D,D2,_,_,rfl,rfl,s5 _ _ h4,h5,Nat.le_of_lt (small1000 (by omega)),fun L nL=>?_⟩
     have s6:=same_upd (o:=.lst (es++fs)) (Same.refl H2) nL
     have u3:=u2.trans s6
     have wa:AreTri (upd H2 L (.lst (es++fs))) (es++fs) (edgesM R++frontsM R p):=Pair.append (w4.same (s5.trans s6)) (w5.same s6)
     have lw:=wa.length
     refine ⟨L,rfl,⟨_,SqL.of upd_same⟩,for_list (K:=K) (a:=L) (xs:=es++fs)
      (fun i σ H3=>∃ vl,σ = [some (.ref a),some v,some (.ref D),some (.ref D2),vl]∧Same (upd H2 L (.lst (es++fs))) H3∧∀ l ∈ (edgesM R++frontsM R p).take i,¬ Out R p l)
      ⟨none,rfl,Same.refl _,fun l hl=>by simp at hl⟩ (fun i σ H3 _ ⟨_,_,s7,_⟩=>s7.seq (SqL.of upd_same)) ?_ ?_⟩
     ·rintro i y σ H3 hi ⟨vl,rfl,s7,no⟩
      obtain ⟨l,l1,l2⟩:=Pair.get wa hi
      have u4:=u3.trans s7
      refine ⟨_,rfl,_,rfl,y,v,l,p,rfl,l2.same s7,hv.same u4,bp.w,_,_,rfl,rfl,_,rfl,?_⟩
      have next:¬ Out R p l→∀ l' ∈ (edgesM R++frontsM R p).take (i+1),¬ Out R p l':=fun h l' hl'=>by
       rw [take_snoc l1] at hl'
       rcases List.mem_append.mp hl' with z | z
       ·exact no l' z
       ·rw [List.mem_singleton] at z; rw [z]; exact h
      by_cases hneg:wrt l p < 0
      ·rw [decide_eq_true hneg]
       refine iteT ⟨_,rfl,a,rfl,⟨_,u4.seq hq⟩,fun D3 hD3=>?_⟩
       have sD3:Same H3 (upd H3 D3 (.lst [])):=same_upd (Same.refl H3) hD3
       refine comp_list (K:=K) (a:=a) (xs:=xs) (fun j σ' H'=>∃ v1,σ' = [v1,some y]∧Same H3 H'∧H' D3 = some (.lst (((R.take j).map fun q=>decide (wrt l q ≥ 0)).map V.bl)))
        ⟨none,rfl,sD3,upd_same⟩ (fun j σ' H' _ ⟨_,_,s8,_⟩=>s8.seq (u4.seq hq)) ?_ ?_
       ·rintro j x σ' H' hx ⟨v1,rfl,s8,h8⟩
        obtain ⟨px,px1,px2⟩:=Pair.get hp hx
        have hjl:=(List.getElem?_eq_some_iff.mp hx).1
        dsimp only [gName,tYes]
        refine iteT ⟨_,rfl,_,rfl,y,x,l,px,rfl,l2.same (s7.trans s8),(px2.same (u4.trans s8)).k,(bR px (List.mem_of_getElem? px1)).w,_,_,rfl,rfl,_,h8,small1000 (by simp; omega),_,rfl,same_upd s8 hD3,?_⟩
        rw [upd_same,take_snoc px1,List.map_append,List.map_append]; rfl
       ·rintro σ' H4 ⟨v1,rfl,s8,h8⟩
        rw [List.take_of_length_le (by omega)] at h8
        refine ⟨D3,_,rfl,SqL.of h8,_,rfl,?_⟩
        refine ite2 (fun c=>?_) (fun c=>?_)
        ·have ho:Out R p l:=⟨hneg,fun q hq=>of_decide_eq_true (all_map.mp c q hq)⟩
         obtain ⟨t,rfl,ht⟩:=l2.same (s7.trans s8)
         exact ⟨_,rfl,kL t l H4 (u4.trans s8) ⟨t,rfl,ht⟩ ho⟩
        ·refine ⟨_,rfl,s7.trans s8,next fun ho=>c (all_map.mpr fun q hq=>decide_eq_true (ho.2 q hq))⟩
      ·rw [decide_eq_false hneg]
       exact iteF (iteF ⟨_,rfl,s7,next fun ho=>hneg ho.1⟩)
     ·rintro σ H3 ⟨vl,rfl,s7,no⟩
      rw [List.take_of_length_le (by omega)] at no
      exact kN H3 (u3.trans s7) ⟨h0,no⟩
end
end Toy
set_option maxRecDepth 100000
namespace Toy
open PySem L2 Geo
theorem adj_at {R:List Pt} {k:Nat} {x y:Pt} (hx:R[k]? = some x) (hy:R[k+1]? = some y):Adj R x y:=by
 obtain ⟨l1,e1⟩:=List.getElem?_eq_some_iff.mp hx
 obtain ⟨l2,e2⟩:=List.getElem?_eq_some_iff.mp hy
 refine ⟨R.take k,R.drop (k+2),?_⟩
 rw [← e1,← e2]
 rw [← List.drop_eq_getElem_cons l2,← List.drop_eq_getElem_cons l1,List.take_append_drop]
structure Fan (R:List Pt) (p e0:Pt):Prop where
 fst:R[0]? = some e0
 edge:∀ i x y,R[i]? = some x→R[i+1]? = some y→0≤turn x y p
 last:∀ z,R[R.length - 1]? = some z→turn e0 z p≤0
 fan:∀ i x y,1≤i→R[i]? = some x→R[i+1]? = some y→0 < turn e0 x y
theorem cases_of {ps:List Pt} {p:Pt} (hb:∀ q ∈ ps,Bd2 q) (h:NoShut (cornersM ps) p) :
  (∃ a,cornersM ps = [a]∧ShOk [a] p [(a,1)])∨(∃ a z,cornersM ps = [a,z]∧ShOk [a,z] p [(a,reachM a z z - reachM a z p),(z,reachM a z p)])∨(3≤(cornersM ps).length∧∃ e0,Fan (cornersM ps) p e0):=by
 have hS:=uniqP_inc hb
 by_cases h2:2≤(uniqP ps).length
 ·obtain ⟨a,z,Lx,Ux,T⟩:=two_of hS h2
  have hc:cornersM ps = a :: Lx++z :: Ux:=T.out
  have mem:∀ q ∈ cornersM ps,Bd2 q:=fun q hq=>hb q (cornersM_sub hb q hq)
  cases Lx with
  | nil =>
   cases Ux with
   | nil =>
    right; left
    have hc':cornersM ps = [a,z]:=hc
    refine ⟨a,z,hc',two_ok T (mem a (by rw [hc']; simp)) (mem z (by rw [hc']; simp)) (by rw [← hc']; exact h) hc'⟩
   | cons c r =>
    right; right
    refine ⟨by rw [hc]; simp <;> omega,a,?_⟩
    exact ⟨by rw [hc]; rfl,fun i x y hx hy=>NoShut.left T h x y (.inl (adj_at hx hy)),fun w hw=>by
     have:=NoShut.left T h w a (.inr ⟨by rw [List.getLast?_eq_getElem?]; exact hw,by rw [show hullR (uniqP ps) = _ from hc]; rfl⟩)
     rw [turn_swap] at this; omega,fun i x y hi hx hy=>by
     obtain ⟨j,rfl⟩:∃ j,i = j+1:=⟨i - 1,by omega⟩
     rw [hc] at hx hy
     exact T.fan (adj_at (k:=j) (by simpa using hx) (by simpa using hy))⟩
  | cons c r =>
   right; right
   refine ⟨by rw [hc]; simp <;> omega,a,?_⟩
   exact ⟨by rw [hc]; rfl,fun i x y hx hy=>NoShut.left T h x y (.inl (adj_at hx hy)),fun w hw=>by
    have:=NoShut.left T h w a (.inr ⟨by rw [List.getLast?_eq_getElem?]; exact hw,by rw [show hullR (uniqP ps) = _ from hc]; rfl⟩)
    rw [turn_swap] at this; omega,fun i x y hi hx hy=>by
    obtain ⟨j,rfl⟩:∃ j,i = j+1:=⟨i - 1,by omega⟩
    rw [hc] at hx hy
    exact T.fan (adj_at (k:=j) (by simpa using hx) (by simpa using hy))⟩
 ·left
  have hc:cornersM ps = uniqP ps:=by unfold cornersM hullR; rw [if_pos (by omega)]
  match e:uniqP ps,h2 with
  | [],_=>exact absurd (hc.trans e) h.1
  | [a],_ =>
   rw [e] at hc
   exact ⟨a,hc,one_ok (by rw [← hc]; exact h)⟩
  | _ :: _ :: _,h2=>simp at h2
section
variable {P:Program} {w:World} {K:PySem.W.Frag} {mg:Str→Option Value} {base:Heap}
def spBetween (K:PySem.W.Frag):Sp:=fun vs H Q _=>∃ u v w a b p,vs = [u,v,w]∧IsPt H u a∧IsPt H v b∧IsPtK K H w p∧Bw a∧Bw b∧Bw p ∧
 ∀ r zs H',H r = none→Same H H'→H' r = some (.lst zs)→AreSh H' zs [(a,reachM a b b - reachM a b p),(b,reachM a b p)]→Q (.ref r) H'
theorem scBetween:FnScope ["tail","head","point","share"] ["tail","head","point"] (defScope sBetween):=⟨rfl,rfl,rfl,by decide +kernel,rfl,by decide +kernel,by decide +kernel⟩
theorem ok_between {f g:Addr} {fd gd:FuncData} (F:Fun K "shares_between" "shares_between" sBetween f fd) (G:FnOk P w K mg base CX0 1 g gd ["tail","head","point"] (spReach K)) (bG:Binds K gd ["tail","head","point"] []) (kG:PySem.W.keepIn K (.ref g) = true) (mG:mg "reach" = some (.ref g)) :
  FnOk P w K mg base CX0 2 f fd ["tail","head","point"] (spBetween K):=by
 refine F.ok scBetween (fun vs H Q E h=>?_) (fun cdv A outer s H vs Q E hr h=>?_)
 ·obtain ⟨u,v,w,a,b,p,rfl,_⟩:=h; rfl
 ·obtain ⟨u,v,w,a,b,p,rfl,hu,hv,hw,ba,bb,bp,k⟩:=h
  refine ⟨_,pss_cons (ps_set (i:=3) scBetween.nd rfl (Or.inl rfl) (pe_call G hr rfl mG kG bG .nil pass0 (pa_cons (pv 0) (pa_cons (pv 1) (pa_cons (pv 2) pa_nil)))))
   (pss_one (ps_ret (pe_lst (pa_cons (pe_tup (pa_cons (pv 0) (pa_cons (pe_op op_sub (pe_call G hr rfl mG kG bG .nil pass0 (pa_cons (pv 0) (pa_cons (pv 1) (pa_cons (pv 1) pa_nil)))) (pv 3)) pa_nil))) (pa_cons (pe_tup (pa_cons (pv 1) (pa_cons (pv 3) pa_nil))) pa_nil))))),?_⟩
  refine ⟨_,rfl,_,rfl,_,rfl,u,v,w,a,b,p,rfl,hu,hv,hw,ba,bb,bp,?_⟩
  refine ⟨_,rfl,_,rfl,_,rfl,_,rfl,u,v,v,a,b,b,rfl,hu,hv,hv.k,ba,bb,bb,_,rfl,_,_,rfl,rfl,(by show 2≤sizeLine; decide),fun t1 n1=>?_⟩
  have s1:=same_upd (o:=.tup [u,.int (reachM a b b - reachM a b p)]) (Same.refl H) n1
  refine ⟨_,rfl,_,rfl,(by show 2≤sizeLine; decide),fun t2 n2=>?_⟩
  have s2:=same_upd (o:=.tup [v,.int (reachM a b p)]) (Same.refl (upd H t1 (.tup [u,.int (reachM a b b - reachM a b p)]))) n2
  refine ⟨(by show 2≤sizeLine; decide),fun r n3=>?_⟩
  have s3:=same_upd (o:=.lst [.ref t1,.ref t2]) (Same.refl (upd (upd H t1 (.tup [u,.int (reachM a b b - reachM a b p)])) t2 (.tup [v,.int (reachM a b p)]))) n3
  have s13:=s1.trans (s2.trans s3)
  refine k r _ _ ((s1.trans s2).free n3) s13 upd_same ?_
  refine .cons ⟨t1,u,rfl,(s2.trans s3) _ _ upd_same,hu.same s13⟩ (.cons ⟨t2,v,rfl,s3 _ _ upd_same,hv.same s13⟩ .nil)
def spOf3 (K:PySem.W.Frag):Sp:=fun vs H Q _=>∃ t u v w a b c p,vs = [t,u,v,w]∧IsPt H t a∧IsPt H u b∧IsPt H v c∧IsPtK K H w p∧Bw a∧Bw b∧Bw c∧Bw p ∧
 ∀ r zs H',H r = none→Same H H'→H' r = some (.lst zs)→AreSh H' zs [(a,turn b c p),(b,turn c a p),(c,turn a b p)]→Q (.ref r) H'
theorem scOf3:FnScope ["one","two","three","point"] ["one","two","three","point"] (defScope sOf3):=⟨rfl,rfl,rfl,by decide +kernel,rfl,by decide +kernel,by decide +kernel⟩
theorem ok_of3 {f g:Addr} {fd gd:FuncData} (F:Fun K "shares_of_three" "shares_of_three" sOf3 f fd) (G:FnOk P w K mg base CX0 1 g gd ["tail","head","point"] (spTurn K)) (bG:Binds K gd ["tail","head","point"] []) (kG:PySem.W.keepIn K (.ref g) = true) (mG:mg "turn" = some (.ref g)) :
  FnOk P w K mg base CX0 2 f fd ["one","two","three","point"] (spOf3 K):=by
 refine F.ok scOf3 (fun vs H Q E h=>?_) (fun cdv A outer s H vs Q E hr h=>?_)
 ·obtain ⟨t,u,v,w,a,b,c,p,rfl,_⟩:=h; rfl
 ·obtain ⟨t,u,v,w,a,b,c,p,rfl,ht,hu,hv,hw,ba,bb,bc,bp,k⟩:=h
  refine ⟨_,pss_one (ps_ret (pe_lst (pa_cons (pe_tup (pa_cons (pv 0) (pa_cons (pe_call G hr rfl mG kG bG .nil pass0 (pa_cons (pv 1) (pa_cons (pv 2) (pa_cons (pv 3) pa_nil)))) pa_nil)))
   (pa_cons (pe_tup (pa_cons (pv 1) (pa_cons (pe_call G hr rfl mG kG bG .nil pass0 (pa_cons (pv 2) (pa_cons (pv 0) (pa_cons (pv 3) pa_nil)))) pa_nil)))
   (pa_cons (pe_tup (pa_cons (pv 2) (pa_cons (pe_call G hr rfl mG kG bG .nil pass0 (pa_cons (pv 0) (pa_cons (pv 1) (pa_cons (pv 3) pa_nil)))) pa_nil))) pa_nil))))),?_⟩
  refine ⟨_,rfl,_,rfl,_,rfl,_,rfl,u,v,w,b,c,p,rfl,hu,hv,hw,bb,bc,bp,(by show 2≤sizeLine; decide),fun t1 n1=>?_⟩
  have s1:=same_upd (o:=.tup [t,.int (turn b c p)]) (Same.refl H) n1
  refine ⟨_,rfl,_,rfl,_,rfl,_,rfl,v,t,w,c,a,p,rfl,hv.same s1,ht.same s1,hw.same s1,bc,ba,bp,(by show 2≤sizeLine; decide),fun t2 n2=>?_⟩
  have s2:=same_upd (o:=.tup [u,.int (turn c a p)]) (Same.refl (upd H t1 (.tup [t,.int (turn b c p)]))) n2
  have s12:=s1.trans s2
  refine ⟨_,rfl,_,rfl,_,rfl,_,rfl,t,u,w,a,b,p,rfl,ht.same s12,hu.same s12,hw.same s12,ba,bb,bp,(by show 2≤sizeLine; decide),fun t3 n3=>?_⟩
  have s3:=same_upd (o:=.tup [v,.int (turn a b p)]) (Same.refl (upd (upd H t1 (.tup [t,.int (turn b c p)])) t2 (.tup [u,.int (turn c a p)]))) n3
  refine ⟨(by show 3≤sizeLine; decide),fun r n4=>?_⟩
  have s4:=same_upd (o:=.lst [.ref t1,.ref t2,.ref t3]) (Same.refl (upd (upd (upd H t1 (.tup [t,.int (turn b c p)])) t2 (.tup [u,.int (turn c a p)])) t3 (.tup [v,.int (turn a b p)]))) n4
  have s14:=s12.trans (s3.trans s4)
  refine k r _ _ ((s12.trans s3).free n4) s14 upd_same ?_
  refine .cons ⟨t1,t,rfl,(s2.trans (s3.trans s4)) _ _ upd_same,ht.same s14⟩ (.cons ⟨t2,u,rfl,(s3.trans s4) _ _ upd_same,hu.same s14⟩ (.cons ⟨t3,v,rfl,s4 _ _ upd_same,hv.same s14⟩ .nil))
def spShares (K:PySem.W.Frag):Sp:=fun vs H Q _=>∃ a xs ps v p,vs = [.ref a,v]∧SqL K H a xs∧ArePts H xs (cornersM ps)∧(cornersM ps).length≤200∧(∀ q ∈ ps,Bd2 q)∧IsPtK K H v p∧Bd2 p∧NoShut (cornersM ps) p ∧
 ∀ r zs sh H',H r = none→Same H H'→H' r = some (.lst zs)→AreSh H' zs sh→ShOk (cornersM ps) p sh→Q (.ref r) H'
theorem scShares:FnScope ["ends","point","k"] ["ends","point"] (defScope sShares):=⟨rfl,rfl,rfl,by decide +kernel,rfl,by decide +kernel,by decide +kernel⟩
theorem ok_shares {f g1 g2 g3:Addr} {fd d1 d2 d3:FuncData} (F:Fun K "shares_within" "shares_within" sShares f fd) (T:Txt mg)
  (B:FnOk P w K mg base CX0 2 g1 d1 ["tail","head","point"] (spBetween K)) (b1:Binds K d1 ["tail","head","point"] []) (k1:PySem.W.keepIn K (.ref g1) = true) (m1:mg "shares_between" = some (.ref g1))
  (G:FnOk P w K mg base CX0 1 g2 d2 ["tail","head","point"] (spTurn K)) (b2:Binds K d2 ["tail","head","point"] []) (k2:PySem.W.keepIn K (.ref g2) = true) (m2:mg "turn" = some (.ref g2))
  (O:FnOk P w K mg base CX0 2 g3 d3 ["one","two","three","point"] (spOf3 K)) (b3:Binds K d3 ["one","two","three","point"] []) (k3:PySem.W.keepIn K (.ref g3) = true) (m3:mg "shares_of_three" = some (.ref g3)) :
  FnOk P w K mg base CX0 3 f fd ["ends","point"] (spShares K):=by
 refine F.ok scShares (fun vs H Q E h=>?_) (fun cdv A outer s H vs Q E hr h=>?_)
 ·obtain ⟨a,xs,ps,v,p,rfl,_⟩:=h; rfl
 ·obtain ⟨a,xs,ps,v,p,rfl,hq,hp,hl,hb,hv,bp,no,k⟩:=h
  have lx:=hp.length
  have mem:∀ q ∈ cornersM ps,Bd2 q:=fun q hq=>hb q (cornersM_sub hb q hq)
  refine ⟨_,pss_cons (ps_if (pt_cmpR op_eq (pe_callB call_len_seq rfl T.len PySem.boot_len (pa_cons (pv 0) pa_nil)) pe_int (nomark _)) (pss_one (ps_ret (pe_lst (pa_cons (pe_tup (pa_cons (pe_ix ix_list (pv 0) pe_int (fun _ _=>rfl)) (pa_cons pe_int pa_nil))) pa_nil)))) pss_nil)
   (pss_cons (ps_if (pt_cmpR op_eq (pe_callB call_len_seq rfl T.len PySem.boot_len (pa_cons (pv 0) pa_nil)) pe_int (nomark _)) (pss_one (ps_ret (pe_call B hr rfl m1 k1 b1 .nil pass0 (pa_cons (pe_ix ix_list (pv 0) pe_int (fun _ _=>rfl)) (pa_cons (pe_ix ix_list (pv 0) pe_int (fun _ _=>rfl)) (pa_cons (pv 1) pa_nil)))))) pss_nil)
   (pss_cons (ps_set (i:=2) scShares.nd rfl (Or.inl rfl) pe_int)
   (pss_cons (ps_while PassesOwn.never (pt_cmpR op_gt (pe_call G (hr.mono (by decide)) rfl m2 k2 b2 .nil pass0 (pa_cons (pe_ix ix_list (pv 0) pe_int (fun _ _=>rfl)) (pa_cons (pe_ix ix_list (pv 0) (pe_op op_add (pv 2) pe_int) (fun _ _=>rfl)) (pa_cons (pv 1) pa_nil)))) pe_int (nomark _))
    (pss_one (ps_aug (i:=2) scShares.nd rfl (Or.inl rfl) pe_int ip_add)))
   (pss_one (ps_ret (pe_call O hr rfl m3 k3 b3 .nil pass0 (pa_cons (pe_ix ix_list (pv 0) pe_int (fun _ _=>rfl)) (pa_cons (pe_ix ix_list (pv 0) (pv 2) (fun _ _=>rfl)) (pa_cons (pe_ix ix_list (pv 0) (pe_op op_add (pv 2) pe_int) (fun _ _=>rfl)) (pa_cons (pv 1) pa_nil)))))))))),?_⟩
  refine ⟨_,rfl,a,_,rfl,.inl hq,rfl,_,rfl,?_⟩
  rcases cases_of hb no with ⟨a1,hc,ok⟩ | ⟨a1,z1,hc,ok⟩ | ⟨h3,e0,fan⟩
  ·rw [hc] at hp lx
   rw [show decide (V.int (xs.length:Int) = V.int 1) = true by rw [lx]; rfl]
   obtain ⟨u,u1,u2⟩:=Pair.get' hp (i:=0) (y:=a1) rfl
   refine iteT ⟨_,rfl,a,_,_,_,rfl,rfl,hq,atI_nat u1,(by show 2≤sizeLine; decide),fun t n1=>?_⟩
   have s1:=same_upd (o:=.tup [u,.int 1]) (Same.refl H) n1
   refine ⟨(by show 1≤sizeLine; decide),fun r n2=>?_⟩
   have s2:=same_upd (o:=.lst [.ref t]) (Same.refl (upd H t (.tup [u,.int 1]))) n2
   exact k r _ [(a1,1)] _ (s1.free n2) (s1.trans s2) upd_same (.cons ⟨t,u,rfl,s2 _ _ upd_same,u2.same (s1.trans s2)⟩ .nil) (by rw [hc]; exact ok)
  ·have mm:=mem
   rw [hc] at hp lx mm
   rw [show decide (V.int (xs.length:Int) = V.int 1) = false by rw [lx]; rfl]
   refine iteF ⟨_,rfl,a,_,rfl,.inl hq,rfl,_,rfl,?_⟩
   rw [show decide (V.int (xs.length:Int) = V.int 2) = true by rw [lx]; rfl]
   obtain ⟨u,u1,u2⟩:=Pair.get' hp (i:=0) (y:=a1) rfl
   obtain ⟨y,y1,y2⟩:=Pair.get' hp (i:=1) (y:=z1) rfl
   refine iteT ⟨_,rfl,a,_,_,_,rfl,rfl,hq,atI_nat u1,_,rfl,a,_,_,_,rfl,rfl,hq,atI_nat y1,_,rfl,u,y,v,a1,z1,p,rfl,u2,y2,hv,(mm a1 (by simp)).w,(mm z1 (by simp)).w,bp.w,fun r zs H' n s' h' w'=>?_⟩
   exact k r zs _ H' n s' h' w' (by rw [hc]; exact ok)
  ·rw [decide_eq_false (show ¬ V.int (xs.length:Int) = V.int 1 from fun e=>by have:=V.int.inj e; omega)]
   refine iteF ⟨_,rfl,a,_,rfl,.inl hq,rfl,_,rfl,?_⟩
   rw [decide_eq_false (show ¬ V.int (xs.length:Int) = V.int 2 from fun e=>by have:=V.int.inj e; omega)]
   refine iteF ?_
   obtain ⟨u0,u01,u02⟩:=Pair.get' hp fan.fst
   have m0:e0 ∈ cornersM ps:=List.mem_of_getElem? fan.fst
   have at':∀ {i:Nat},i < xs.length→∃ (u:V) (q:Pt),xs[i]? = some u∧IsPt H u q∧(cornersM ps)[i]? = some q∧q ∈ cornersM ps:=fun {i} hi=>by
    obtain ⟨q,q1,q2⟩:=Pair.get (i:=i) (x:=xs[i]) hp (by simp [hi])
    exact ⟨xs[i],q,by simp [hi],q2,q1,List.mem_of_getElem? q1⟩
   refine ⟨fun m σ' H3=>∃ (i:Nat) (x:Pt),σ' = [some (.ref a),some v,some (.int (i:Int))]∧H3 = H∧m = xs.length - i∧1≤i∧i+1 < xs.length∧(cornersM ps)[i]? = some x∧0≤turn e0 x p,?_,?_⟩
   ·obtain ⟨u,q,_,_,q3,_⟩:=at' (i:=1) (by omega)
    exact ⟨_,1,q,rfl,rfl,rfl,Nat.le_refl _,by omega,q3,fan.edge 0 e0 q fan.fst q3⟩
   ·rintro m σ' H3 ⟨i,x,rfl,rfl,rfl,hi1,hi2,hx,htx⟩
    obtain ⟨uy,y,y1,y2,y3,my⟩:=at' (i:=i+1) hi2
    obtain ⟨ux,x',x1,x2,x3,mx⟩:=at' (i:=i) (by omega)
    rw [hx] at x3; cases x3
    have ey:atI xs ((i:Int)+1) = some uy:=by have:=atI_nat y1; rw [show (((i+1:Nat)):Int) = (i:Int)+1 by omega] at this; exact this
    refine ⟨_,rfl,a,_,_,_,rfl,rfl,hq,atI_nat (j:=0) u01,_,rfl,_,rfl,_,_,rfl,rfl,a,_,_,_,rfl,rfl,hq,ey,_,rfl,u0,uy,v,e0,y,p,rfl,u02,y2,hv,(mem _ m0).w,(mem _ my).w,bp.w,_,_,rfl,rfl,_,rfl,?_⟩
    by_cases ht:0 < turn e0 y p
    ·rw [decide_eq_true ht]
     have hne:i+1 ≠ xs.length - 1:=fun e=>by
      have:=fan.last y (by rw [← lx,← e]; exact y3)
      omega
     refine iteT ⟨fun σ4 H4=>σ4 = [some (.ref a),some v,some (.int ((i+1:Nat):Int))]∧H4 = H3,fun σ4 H4 ⟨e4,e5⟩=>⟨xs.length - (i+1),by omega,i+1,y,e4,e5,rfl,by omega,by omega,y3,by omega⟩,?_⟩
     exact ⟨_,rfl,_,_,rfl,rfl,by show _ = _; simp,rfl⟩
    ·rw [decide_eq_false ht]
     refine iteF ?_
     refine ⟨_,rfl,a,_,_,_,rfl,rfl,hq,atI_nat (j:=0) u01,_,rfl,_,rfl,a,_,_,_,rfl,rfl,hq,atI_nat x1,_,rfl,_,rfl,_,_,rfl,rfl,a,_,_,_,rfl,rfl,hq,ey,_,rfl,u0,ux,uy,v,e0,x,y,p,rfl,u02,x2,y2,hv,(mem _ m0).w,(mem _ mx).w,(mem _ my).w,bp.w,fun r zs H' n s' h' w'=>?_⟩
     refine k r zs _ H' n s' h' w' (three_ok m0 mx my (mem _ m0) (mem _ mx) (mem _ my) (fan.fan i x y hi1 hx y3) htx (fan.edge i x y hx y3) ?_)
     rw [turn_swap]; omega
end
end Toy
set_option maxRecDepth 100000
namespace Toy
open PySem L2 Geo
section
variable {P:Program} {w:World} {K:PySem.W.Frag} {mg:Str→Option Value} {base:Heap}
abbrev n_sPlaced:List Str:=["points","point","ends","line","shares"]
def spPlaced (K:PySem.W.Frag):Sp:=fun vs H Q _=>∃ a xs ps v p,vs = [.ref a,v]∧SqL K H a xs∧ArePts H xs ps∧ps.length≤12∧(∀ q ∈ ps,Bd q)∧IsPt H v p∧Bd p ∧
 (∀ r t l H',H r = none→Same H H'→H' r = some (.tup [.str "out",.ref t])→IsTri H' (.ref t) l→Out ps p l→Q (.ref r) H') ∧
 (∀ r t ws tri H',H r = none→H t = none→Same H H'→H' r = some (.tup [.str "in",.ref t])→H' t = some (.lst ws)→AreTri H' ws tri→WOk ps tri (p.1,p.2,1)→InHull ps p→Q (.ref r) H')
theorem scPlaced:FnScope n_sPlaced ["points","point"] (defScope sPlaced):=⟨rfl,rfl,rfl,by decide +kernel,rfl,by decide +kernel,by decide +kernel⟩
abbrev c_plc:Scope:={ kind:=.function,names:=[(".0",.local),("end",.local),("share",.local),("points",.free)],isGenerator:=false,isCoroutine:=false }
theorem cs_plc {cdv:Value} {A:Around} {outer:List Env} {s:Shared} {H:Hp} {E:XK} {f:Addr}:CompScope (cxOf CX0 P w K mg base n_sPlaced "placed" (defScope sPlaced) f cdv A outer s H E).nox c_plc ["end","share","points"] [none,none,some 0] where
 kind:=rfl
 nocell:=by decide +kernel
 names:=by decide +kernel
 frees:=by show ∀ z ∈ c_plc.names,z.2 = .free→(defScope sPlaced).names.lookup z.1 = some .cell; decide +kernel
 nd:=by decide +kernel
 len:=rfl
 cap:=fun i j h=>match i,h with
  | 0,h=>by simp at h
  | 1,h=>by simp at h
  | 2,h=>by
   simp at h; subst h
   exact ⟨"points",rfl,rfl,by decide +kernel,rfl,.inl rfl⟩
  | n+3,h=>by simp at h
theorem nd_plc:(["end","share","points"]:List Str).Nodup:=by decide +kernel
def rIndexP (K:PySem.W.Frag):V→List V→Hp→VK→Prop:=fun x vs H Q=>∃ b ys qs v p j,x = .ref b∧vs = [v]∧SqL K H b ys∧ArePts H ys qs∧IsPt H v p∧qs[j]? = some p∧(∀ i,i < j→qs[i]? ≠ some p)∧qs.length≤1000∧Q (.int (j:Nat)) H
theorem mt_indexK {X:Cx} {K':PySem.W.Frag} (h:X.K = K') (hu:X.A.units+16 < cLine):MtR X "list.index" (rIndexP K'):=h ▸ mt_indexP hu
theorem bmK {X:Cx} {K':PySem.W.Frag} {e:Expr} {T:String} {r:V→List V→Hp→VK→Prop} {to:TE} {t:TA} (h:X.K = K') (hp:PE X e (tBM X.K T r to t)):PE X e (tBM K' T r to t):=h ▸ hp
theorem ok_placed {f g1 g2 g3 g4 g5 g6:Addr} {fd d1 d2 d3 d4 d5 d6:FuncData} (F:Fun K "placed" "placed" sPlaced f fd)
  (C:FnOk P w K mg base CX0 2 g1 d1 ["points"] (spChks K)) (b1:Binds K d1 ["points"] []) (k1:PySem.W.keepIn K (.ref g1) = true) (m1:mg "check_points" = some (.ref g1))
  (C1:FnOk P w K mg base CX0 1 g2 d2 ["point"] spChk) (b2:Binds K d2 ["point"] []) (k2:PySem.W.keepIn K (.ref g2) = true) (m2:mg "check_point" = some (.ref g2))
  (R:FnOk P w K mg base CX0 3 g3 d3 ["points"] (spRnd K)) (b3:Binds K d3 ["points"] []) (k3:PySem.W.keepIn K (.ref g3) = true) (m3:mg "corners_round" = some (.ref g3))
  (S:FnOk P w K mg base CX0 2 g4 d4 ["ends","point"] (spShut K)) (b4:Binds K d4 ["ends","point"] []) (k4:PySem.W.keepIn K (.ref g4) = true) (m4:mg "shutting_line" = some (.ref g4))
  (N:FnOk P w K mg base CX0 3 g5 d5 ["ends","point"] (spShares K)) (b5:Binds K d5 ["ends","point"] []) (k5:PySem.W.keepIn K (.ref g5) = true) (m5:mg "shares_within" = some (.ref g5))
  (W:FnOk P w K mg base CX0 2 g6 d6 ["shares"] (spWeigh K)) (b6:Binds K d6 ["shares"] []) (k6:PySem.W.keepIn K (.ref g6) = true) (m6:mg "weighing" = some (.ref g6)) :
  FnOk P w K mg base CX0 4 f fd ["points","point"] (spPlaced K):=by
 refine F.ok scPlaced (fun vs H Q E h=>?_) (fun cdv A outer s H vs Q E hr h=>?_)
 ·obtain ⟨a,xs,ps,v,p,rfl,_⟩:=h; rfl
 ·obtain ⟨a,xs,ps,v,p,rfl,hq,hp,hl,hb,hv,bp,kO,kI⟩:=h
  have hu:(A.deeper (PyProof.Rows.envOfC "placed" (defScope sPlaced) s.heap.objs.size f cdv)).units+16 < cLine:=by have:=hr.units; omega
  have hb2:∀ q ∈ ps,Bd2 q:=fun q h=>(hb q h).two
  refine ⟨_,pss_cons (ps_expr (pe_call C (hr.mono (by decide)) rfl m1 k1 b1 .nil pass0 (pa_cons (pv 0) pa_nil)))
   (pss_cons (ps_expr (pe_call C1 (hr.mono (by decide)) rfl m2 k2 b2 .nil pass0 (pa_cons (pv 1) pa_nil)))
   (pss_cons (ps_set (i:=2) scPlaced.nd rfl (Or.inl rfl) (pe_call R hr rfl m3 k3 b3 .nil pass0 (pa_cons (pv 0) pa_nil)))
   (pss_cons (ps_set (i:=3) scPlaced.nd rfl (Or.inl rfl) (pe_call S (hr.mono (by decide)) rfl m4 k4 b4 .nil pass0 (pa_cons (pv 2) (pa_cons (pv 1) pa_nil))))
   (pss_cons (ps_if (pt_cmp (pc_notN (pv 3))) (pss_one (ps_ret (pe_tup (pa_cons pe_str (pa_cons (pv 3) pa_nil))))) pss_nil)
   (pss_cons (ps_setC (i:=4) scPlaced.nd rfl rfl cs_plc rfl (pi_list (pe_call N hr rfl m5 k5 b5 .nil pass0 (pa_cons (pv 2) (pa_cons (pv 1) pa_nil))))
    (fun _ _ _ _ _=>pgt (K':=K) rfl (pg_tup (n:=2) rfl (pgs_cons (pg_name (i:=0) nd_plc rfl (Or.inl rfl)) (pgs_cons (pg_name (i:=1) nd_plc rfl (Or.inl rfl)) pgs_nil)))) (fun _ _ _ _ _=>pif_nil)
    (fun _ _ _ _ _=>pe_tup (pa_cons (bmK (K':=K) rfl (pe_bm PySem.F.plainAttrs_list PySem.F.slot_list_index PySem.F.type_list_index (mt_indexK (K':=K) rfl hu) (pv 2) (pa_cons (pv 0) pa_nil))) (pa_cons (pv 1) pa_nil))) rfl)
   (pss_one (ps_ret (pe_tup (pa_cons pe_str (pa_cons (pe_call W (hr.mono (by decide)) rfl m6 k6 b6 .nil pass0 (pa_cons (pv 4) pa_nil)) pa_nil)))))))))),?_⟩
  refine ⟨_,rfl,a,xs,ps,rfl,hq,hp,hl,hb,?_⟩
  refine ⟨_,rfl,v,p,rfl,hv,bp,?_⟩
  refine ⟨_,rfl,a,xs,ps,rfl,hq,hp,hl,hb2,fun r zs H1 n1 s1 h1 p1=>?_⟩
  have lz:=p1.length
  have lc:(cornersM ps).length≤200:=by
   have h:=uniqP_le ps
   have e1:=sideOf_len (uniqP ps)
   have e2:=sideOf_len (uniqP ps).reverse
   rw [List.length_reverse] at e2
   unfold cornersM hullR
   split
   ·omega
   ·rw [List.length_append,List.length_dropLast,List.length_dropLast]; omega
  refine ⟨_,rfl,_,rfl,r,zs,cornersM ps,v,p,rfl,SqL.of h1,p1,lc,fun q hq=>hb2 q (cornersM_sub hb2 q hq),(hv.same s1).k,bp.two,fun t l H2 s2 ht ho=>?_,fun H2 s2 no=>?_⟩
  ·refine ⟨_,rfl,true,(by show V.bl (!decide (V.ref t = V.non)) = V.bl true; rw [decide_eq_false (by intro e; cases e)]; rfl),iteT ?_⟩
   refine ⟨_,rfl,(by show 2≤sizeLine; decide),fun u nu=>?_⟩
   have s3:=same_upd (o:=.tup [.str "out",.ref t]) (Same.refl H2) nu
   exact kO u t l _ ((s1.trans s2).free nu) ((s1.trans s2).trans s3) upd_same (ht.same s3) (ho.corners hb2)
  ·refine ⟨_,rfl,false,(by show V.bl (!decide (V.non = V.non)) = V.bl false; rw [decide_eq_true rfl]; rfl),iteF ?_⟩
   have s12:=s1.trans s2
   refine ⟨_,rfl,_,rfl,r,zs,ps,v,p,rfl,s2.seq (SqL.of h1),p1.same s2,lc,hb2,(hv.same s12).k,bp.two,no,fun r3 z3 sh H3 n3 s3 h3 w3 ok=>?_⟩
   have s13:=s12.trans s3
   have lsh:=w3.length
   have lok:=ok.len
   refine ⟨r3,rfl,⟨_,SqL.of h3⟩,fun D hD=>?_⟩
   have sD:Same H3 (upd H3 D (.lst [])):=same_upd (Same.refl H3) hD
   refine comp_list (K:=K) (a:=r3) (xs:=z3) (fun j σ' H'=>∃ v1 v2 us,σ' = [v1,v2,some (.ref a)]∧Same H3 H'∧H' D = some (.lst us)∧ArePts H' us ((prsM ps sh).take j))
    ⟨none,none,[],rfl,sD,upd_same,.nil⟩ (fun j σ' H' _ ⟨_,_,_,_,s4,_⟩=>s4.seq (SqL.of h3)) ?_ ?_
   ·rintro j x σ' H' hj ⟨v1,v2,us,rfl,s4,h4,w4⟩
    obtain ⟨e,e1,e2⟩:=Pair.get w3 hj
    have hjl:=(List.getElem?_eq_some_iff.mp hj).1
    have lw:=w4.length
    rw [List.length_take] at lw
    obtain ⟨t,c,rfl,ht,hc⟩:=e2
    have me:e.1 ∈ ps:=cornersM_sub hb2 _ (ok.mem e (List.mem_of_getElem? e1))
    obtain ⟨ix1,ix2⟩:=idxP_get me
    have s14:=s13.trans s4
    refine ⟨t,_,rfl,SqT.of (s4 _ _ ht),rfl,_,_,rfl,_,_,rfl,rfl,?_⟩
    dsimp only [tYes]
    refine iteT ⟨_,rfl,.inl ⟨rfl,_,s14.seq hq⟩,_,rfl,a,xs,ps,c,e.1,idxP ps e.1,rfl,rfl,s14.seq hq,hp.same s14,hc.same s4,ix1,ix2,by omega,_,rfl,(by show 2≤sizeLine; decide),fun u nu=>?_⟩
    have s5:=same_upd (o:=.tup [.int (idxP ps e.1:Nat),.int e.2]) (Same.refl H') nu
    have hDD:=s5 _ _ h4
    refine ⟨us,hDD,small1000 (by omega),_,_,_,rfl,same_upd (s4.trans s5) hD,upd_same,?_⟩
    rw [take_snoc (show (prsM ps sh)[j]? = some (((idxP ps e.1:Nat):Int),e.2) by unfold prsM; rw [List.getElem?_map,e1]; rfl)]
    refine Pair.append (ArePts.keep w4 ((Same.keep s5).trans (Keep.lst hDD _))) (.cons ⟨u,rfl,?_⟩ .nil)
    have:u ≠ D:=fun e=>by subst e; rw [h4] at nu; cases nu
    rw [upd_ne this,upd_same]
   ·rintro σ' H4 ⟨v1,v2,us,rfl,s4,h4,w4⟩
    have lpr:(prsM ps sh).length = sh.length:=by unfold prsM; rw [List.length_map]
    rw [List.take_of_length_le (by omega)] at w4
    have po:=pr_ok (ps:=ps) ok (fun q hq=>cornersM_sub hb2 q hq)
    have s14:=s13.trans s4
    refine ⟨_,rfl,D,us,prsM ps sh,rfl,SqL.of h4,w4,by have:=po.len; omega,po.nn,po.pos,po.lt,fun r5 ws H5 n5 s5 h5 w5=>?_⟩
    refine ⟨(by show 2≤sizeLine; decide),fun u nu=>?_⟩
    have s6:=same_upd (o:=.tup [.str "in",.ref r5]) (Same.refl H5) nu
    have s15:=s14.trans s5
    exact kI u r5 ws _ _ (s15.free nu) (s14.free n5) (s15.trans s6) upd_same (s6 _ _ h5) (w5.same s6) (weigh_ok po) ((hull_corners hb2).mp ok.hull)
end
end Toy
set_option maxRecDepth 100000
namespace Toy
open PySem L2 Geo
section
variable {P:Program} {w:World} {K:PySem.W.Frag} {mg:Str→Option Value} {base:Heap}
theorem FnOk.weak {CX:CXT} {k:Nat} {f:Addr} {fd:FuncData} {ps:List Str} {sp sp':Sp} (h:FnOk P w K mg base CX k f fd ps sp) (i:∀ vs H Q E,sp' vs H Q E→sp vs H Q E):FnOk P w K mg base CX k f fd ps sp' :=
 ⟨fun vs H Q E x=>h.1 vs H Q E (i _ _ _ _ x),fun A outer s H args us vs Q E a b c d x=>h.2 A outer s H args us vs Q E a b c d (i _ _ _ _ x)⟩
def wd (b:Bool):Str:=if b then "in" else "out"
def spWord (K:PySem.W.Frag):Sp:=fun vs H Q _=>∃ a xs ps v p,vs = [.ref a,v]∧SqL K H a xs∧ArePts H xs ps∧ps.length≤12∧(∀ q ∈ ps,Bd q)∧IsPt H v p∧Bd p ∧
 ∀ (b:Bool) r t H',H r = none→Same H H'→H' r = some (.tup [.str (wd b),.ref t])→(b = true↔InHull ps p)→Q (.ref r) H'
theorem placed_word {f:Addr} {fd:FuncData} (h:FnOk P w K mg base CX0 4 f fd ["points","point"] (spPlaced K)):FnOk P w K mg base CX0 4 f fd ["points","point"] (spWord K) :=
 FnOk.weak h fun vs H Q E ⟨a,xs,ps,v,p,e,hq,hp,hl,hb,hv,bp,k⟩=>⟨a,xs,ps,v,p,e,hq,hp,hl,hb,hv,bp,
  fun r t l H' n s h _ ho=>k false r t H' n s h ⟨fun e=>(by cases e),fun e=>absurd e ho.not⟩,
  fun r t ws tri H' n _ s h _ _ _ hi=>k true r t H' n s h ⟨fun _=>hi,fun _=>rfl⟩⟩
end
end Toy
set_option maxRecDepth 100000
namespace Toy
open PySem L2 Geo
section
variable {P:Program} {w:World} {K:PySem.W.Frag} {mg:Str→Option Value} {base:Heap}
def spLowest:Sp:=fun vs H Q _=>∃ v t,vs = [v]∧IsTri H v t∧0 < gcd3 t∧gcd3 t < 2 ^ 200∧∀ r,H r = none→Q (.ref r) (upd H r (.tup [.int (lowM t).1,.int (lowM t).2.1,.int (lowM t).2.2]))
theorem scLowest:FnScope ["three","common"] ["three"] (defScope sLowest):=⟨rfl,rfl,rfl,by decide +kernel,rfl,by decide +kernel,by decide +kernel⟩
theorem absI (i:Int):(if i < 0 then -i else i) = (i.natAbs:Int):=by split <;> omega
theorem gcd3_abs (t:Tri):Int.gcd (Int.gcd (t.1.natAbs:Int) (t.2.1.natAbs:Int):Nat) (t.2.2.natAbs:Int) = gcd3 t:=by
 unfold gcd3
 simp only [Int.gcd,Int.natAbs_natCast]
theorem ok_lowest {f g:Addr} {fd gd:FuncData} (F:Fun K "lowest" "lowest" sLowest f fd) (T:Txt mg) (G:FnOk P w K mg base CX0 1 g gd ["one","other"] spGcd) (bG:Binds K gd ["one","other"] []) (kG:PySem.W.keepIn K (.ref g) = true) (mG:mg "greatest_divisor" = some (.ref g)) :
  FnOk P w K mg base CX0 2 f fd ["three"] spLowest:=by
 refine F.ok scLowest (fun vs H Q E h=>?_) (fun cdv A' outer s H vs Q E hr h=>?_)
 ·obtain ⟨v,t,rfl,_⟩:=h; rfl
 ·obtain ⟨v,t,rfl,⟨a,rfl,ha⟩,g0,g1,k⟩:=h
  refine ⟨_,pss_cons (ps_set (i:=1) scLowest.nd rfl (Or.inl rfl) (pe_call G hr rfl mG kG bG .nil pass0 (pa_cons (pe_call G hr rfl mG kG bG .nil pass0 (pa_cons (pe_callB call_abs rfl T.abs PyProof.Rows.boot_abs (pa_cons (pe_ix ix_tup (pv 0) pe_int (fun _ _=>rfl)) pa_nil)) (pa_cons (pe_callB call_abs rfl T.abs PyProof.Rows.boot_abs (pa_cons (pe_ix ix_tup (pv 0) pe_int (fun _ _=>rfl)) pa_nil)) pa_nil))) (pa_cons (pe_callB call_abs rfl T.abs PyProof.Rows.boot_abs (pa_cons (pe_ix ix_tup (pv 0) pe_int (fun _ _=>rfl)) pa_nil)) pa_nil))))
   (pss_one (ps_ret (pe_tup (pa_cons (pe_op op_fdivB (pe_ix ix_tup (pv 0) pe_int (fun _ _=>rfl)) (pv 1)) (pa_cons (pe_op op_fdivB (pe_ix ix_tup (pv 0) pe_int (fun _ _=>rfl)) (pv 1)) (pa_cons (pe_op op_fdivB (pe_ix ix_tup (pv 0) pe_int (fun _ _=>rfl)) (pv 1)) pa_nil)))))),?_⟩
  refine ⟨_,rfl,a,_,_,_,rfl,rfl,SqT.of ha,atI_nat (j:=0) rfl,_,rfl,_,rfl,a,_,_,_,rfl,rfl,SqT.of ha,atI_nat (j:=1) rfl,_,rfl,(t.1.natAbs:Int),(t.2.1.natAbs:Int),by rw [absI,absI]; rfl,by omega,by omega,?_⟩
  refine ⟨_,rfl,a,_,_,_,rfl,rfl,SqT.of ha,atI_nat (j:=2) rfl,_,rfl,((Int.gcd (t.1.natAbs:Int) (t.2.1.natAbs:Int):Nat):Int),(t.2.2.natAbs:Int),by rw [absI]; rfl,by omega,by omega,?_⟩
  rw [gcd3_abs]
  have p0:(0:Int) < (gcd3 t:Nat):=by omega
  have p1:((gcd3 t:Nat):Int) < 2 ^ 200:=by omega
  refine ⟨_,rfl,a,_,_,_,rfl,rfl,SqT.of ha,atI_nat (j:=0) rfl,_,rfl,_,_,rfl,rfl,⟨p0,p1⟩,?_⟩
  refine ⟨_,rfl,a,_,_,_,rfl,rfl,SqT.of ha,atI_nat (j:=1) rfl,_,rfl,_,_,rfl,rfl,⟨p0,p1⟩,?_⟩
  refine ⟨_,rfl,a,_,_,_,rfl,rfl,SqT.of ha,atI_nat (j:=2) rfl,_,rfl,_,_,rfl,rfl,⟨p0,p1⟩,?_⟩
  exact ⟨(by show 3≤sizeLine; decide),fun r hr'=>k r hr'⟩
end
end Toy
set_option maxRecDepth 100000
namespace Toy
open PySem L2 Geo
def kpt (d:Pt):List Key:=[Sum.inl d.1,Sum.inl d.2]
theorem kpt_inj {a b:Pt} (h:kpt a = kpt b):a = b:=by
 unfold kpt at h
 injection h with h1 h2
 injection h2 with h2 _
 injection h1 with h1
 injection h2 with h2
 exact Prod.ext h1 h2
def StepAt (H:Hp) (kv:List Key×V) (e:Pt×Pt):Prop:=kv.1 = kpt e.1∧IsPt H kv.2 e.2
abbrev AreSteps (H:Hp):List (List Key×V)→List (Pt×Pt)→Prop:=Paired (StepAt H)
def putE:List (Pt×Pt)→Pt→Pt→List (Pt×Pt)
 | [],d,v=>[(d,v)]
 | e :: r,d,v=>if e.1 = d then (e.1,v) :: r else e :: putE r d v
theorem putE_mem {d v:Pt}:∀ {es:List (Pt×Pt)} {e:Pt×Pt},e ∈ putE es d v→e = (d,v)∨e ∈ es
 | [],e,h=>by simp [putE] at h; exact .inl h
 | x :: r,e,h=>by
  unfold putE at h
  by_cases q:x.1 = d
  ·rw [if_pos q] at h
   rcases List.mem_cons.mp h with z | z
   ·left; rw [z,q]
   ·right; simp [z]
  ·rw [if_neg q] at h
   rcases List.mem_cons.mp h with z | z
   ·right; simp [z]
   ·rcases putE_mem z with y | y
    ·exact .inl y
    ·right; simp [y]
theorem putE_keys {d v:Pt}:∀ {es:List (Pt×Pt)} {k:Pt},k ∈ (putE es d v).map (·.1)↔k = d∨k ∈ es.map (·.1)
 | [],k=>by simp [putE]
 | x :: r,k=>by
  unfold putE
  by_cases q:x.1 = d
  ·rw [if_pos q]; simp only [List.map_cons,List.mem_cons,q]
   constructor
   ·intro z; exact .inr z
   ·rintro (z | z)
    ·exact .inl z
    ·exact z
  ·rw [if_neg q]; simp only [List.map_cons,List.mem_cons,putE_keys (es:=r)]
   constructor
   ·rintro (z | z | z)
    ·exact .inr (.inl z)
    ·exact .inl z
    ·exact .inr (.inr z)
   ·rintro (z | z | z)
    ·exact .inr (.inl z)
    ·exact .inl z
    ·exact .inr (.inr z)
theorem putE_nd {d v:Pt}:∀ {es:List (Pt×Pt)},(es.map (·.1)).Nodup→((putE es d v).map (·.1)).Nodup
 | [],_=>by simp [putE]
 | x :: r,h=>by
  unfold putE
  by_cases q:x.1 = d
  ·rw [if_pos q]; exact h
  ·rw [if_neg q]
   rw [List.map_cons,List.nodup_cons] at h ⊢
   refine ⟨fun z=>?_,putE_nd h.2⟩
   rcases putE_keys.mp z with y | y
   ·exact q y
   ·exact h.1 y
theorem putE_len {d v:Pt}:∀ {es:List (Pt×Pt)},(putE es d v).length≤es.length+1
 | []=>by simp [putE]
 | x :: r=>by
  unfold putE
  by_cases q:x.1 = d
  ·rw [if_pos q]; simp
  ·rw [if_neg q]; have:=putE_len (d:=d) (v:=v) (es:=r); simp; omega
theorem putK_cons {p:List Key×V} {r:List (List Key×V)} {k:List Key} {v:V} (h:p.1 = k) (hn:k ∉ r.map (·.1)):putK (p :: r) k v = (p.1,v) :: r:=by
 have e:r.map (fun kv=>if kv.1 = k then (kv.1,v) else kv) = r:=by
  conv=>rhs; rw [← List.map_id r]
  refine List.map_congr_left fun q hq=>?_
  rw [if_neg (fun z=>hn (List.mem_map.mpr ⟨q,hq,z⟩))]; rfl
 unfold putK
 rw [if_pos (by simp [h]),List.map_cons,if_pos h,e]
theorem putK_skip {p:List Key×V} {r:List (List Key×V)} {k:List Key} {v:V} (h:¬ p.1 = k):putK (p :: r) k v = p :: putK r k v:=by
 unfold putK
 rw [List.any_cons,show decide (p.1 = k) = false from decide_eq_false h,Bool.false_or]
 by_cases q:(r.any fun kv=>decide (kv.1 = k)) = true
 ·rw [if_pos q,if_pos q,List.map_cons,if_neg h]
 ·rw [if_neg q,if_neg q]; rfl
theorem steps_put {H:Hp} {d n:Pt} {v:V} (hv:IsPt H v n):∀ {kvs:List (List Key×V)} {es:List (Pt×Pt)},AreSteps H kvs es→(es.map (·.1)).Nodup→AreSteps H (putK kvs (kpt d) v) (putE es d n)
 | _,_,.nil,_=>.cons ⟨rfl,hv⟩ .nil
 | p :: kvs,e :: es,.cons h t,nd=>by
  rw [List.map_cons,List.nodup_cons] at nd
  unfold putE
  by_cases q:e.1 = d
  ·rw [if_pos q,putK_cons (by rw [h.1,q])]
   ·exact .cons ⟨h.1,hv⟩ t
   ·intro z
    obtain ⟨x,hx,ex⟩:=List.mem_map.mp z
    obtain ⟨i,hi⟩:=List.mem_iff_getElem?.mp hx
    obtain ⟨y,y1,y2⟩:=Pair.get t hi
    have:y.1 = d:=kpt_inj (y2.1.symm.trans ex)
    exact nd.1 (by rw [q,← this]; exact List.mem_map.mpr ⟨y,List.mem_of_getElem? y1,rfl⟩)
  ·rw [if_neg q,putK_skip (fun z=>q (kpt_inj (h.1.symm.trans z)))]
   exact .cons h (steps_put hv t nd.2)
theorem steps_val {H:Hp} {d n:Pt}:∀ {kvs:List (List Key×V)} {es:List (Pt×Pt)},AreSteps H kvs es→(es.map (·.1)).Nodup→(d,n) ∈ es→∃ v,valV kvs (kpt d) = some v∧IsPt H v n
 | [],_,h,_,hm=>by cases h; simp at hm
 | p :: kvs,e :: es,.cons h t,nd,hm=>by
  rw [List.map_cons,List.nodup_cons] at nd
  by_cases q:e.1 = d
  ·rcases List.mem_cons.mp hm with z | z
   ·exact ⟨p.2,valV_pos (by rw [h.1,q]),by rw [← z] at h; exact h.2⟩
   ·exact absurd (List.mem_map.mpr ⟨_,z,q.symm⟩) nd.1
  ·rcases List.mem_cons.mp hm with z | z
   ·exact absurd (by rw [← z]) q
   ·obtain ⟨v,v1,v2⟩:=steps_val t nd.2 z
    exact ⟨v,by rw [valV_neg (fun z=>q (kpt_inj (h.1.symm.trans z)))]; exact v1,v2⟩
structure StepsOk (A B:List Pt) (es:List (Pt×Pt)):Prop where
 nd:(es.map (·.1)).Nodup
 ix:∀ e ∈ es,0≤e.2.1∧e.2.1 < A.length∧0≤e.2.2∧e.2.2 < B.length∧e.1 = subP (ptAt A e.2.1) (ptAt B e.2.2)
section
variable {P:Program} {w:World} {K:PySem.W.Frag} {mg:Str→Option Value} {base:Heap}
abbrev n_sSteps:List Str:=["ones","others","steps","one_number","one","other_number","other"]
def spSteps (K:PySem.W.Frag):Sp:=fun vs H Q _=>∃ a xs A b ys B,vs = [.ref a,.ref b]∧SqL K H a xs∧ArePts H xs A∧SqL K H b ys∧ArePts H ys B∧A.length * B.length≤200 ∧
 ∀ r kvs es H',H r = none→Same H H'→H' r = some (.dT kvs)→AreSteps H' kvs es→StepsOk A B es→(∀ p ∈ A,∀ q ∈ B,subP p q ∈ es.map (·.1))→es.length≤A.length * B.length→Q (.ref r) H'
theorem scSteps:FnScope n_sSteps ["ones","others"] (defScope sSteps):=⟨rfl,rfl,rfl,by decide +kernel,rfl,by decide +kernel,by decide +kernel⟩
theorem ptAt_get {A:List Pt} {i:Nat} {p:Pt} (h:A[i]? = some p):ptAt A (i:Nat) = p:=by
 unfold ptAt; rw [Int.toNat_natCast,List.getD_eq_getElem?_getD,h]; rfl
theorem Keep.dT {H:Hp} {r:Addr} {kvs:List (List Key×V)} (h:H r = some (.dT kvs)) (o:HO):Keep H (upd H r o):=fun a ys e=>by rw [upd_ne (ne_of e h (by intro z; cases z))]; exact e
theorem AreSteps.keep {H H':Hp} {kvs:List (List Key×V)} {es:List (Pt×Pt)} (h:AreSteps H kvs es) (k:Keep H H'):AreSteps H' kvs es:=Paired.mapP h fun _ _ z=>⟨z.1,z.2.keep k⟩
theorem ok_steps {f:Addr} {fd:FuncData} (F:Fun K "steps_between" "steps_between" sSteps f fd) (T:Txt mg):FnOk P w K mg base CX0 1 f fd ["ones","others"] (spSteps K):=by
 refine F.ok scSteps (fun vs H Q E h=>?_) (fun cdv A' outer s H vs Q E hr h=>?_)
 ·obtain ⟨a,xs,A,b,ys,B,rfl,_⟩:=h; rfl
 ·obtain ⟨a,xs,A,b,ys,B,rfl,ha,hx,hb,hy,hl,k⟩:=h
  have hu:=hu_of hr
  have lx:=hx.length
  have ly:=hy.length
  refine ⟨_,pss_cons (ps_set (i:=2) scSteps.nd rfl (Or.inl rfl) pe_dnewT)
   (pss_cons (ps_for PassesOwn.never rfl (pi_enum rfl T.enumerate (pa_cons (pv 0) pa_nil)) (pg_tup (n:=2) rfl (pgs_cons (pg_name (i:=3) scSteps.nd rfl (Or.inl rfl)) (pgs_cons (pg_name (i:=4) scSteps.nd rfl (Or.inl rfl)) pgs_nil)))
    (pss_one (ps_for PassesOwn.never rfl (pi_enum rfl T.enumerate (pa_cons (pv 1) pa_nil)) (pg_tup (n:=2) rfl (pgs_cons (pg_name (i:=5) scSteps.nd rfl (Or.inl rfl)) (pgs_cons (pg_name (i:=6) scSteps.nd rfl (Or.inl rfl)) pgs_nil)))
     (pss_one (ps_dput hu (pv 2) (pe_tup (pa_cons (pe_op op_sub (pe_ix ix_tup (pv 4) pe_int (fun _ _=>rfl)) (pe_ix ix_tup (pv 6) pe_int (fun _ _=>rfl))) (pa_cons (pe_op op_sub (pe_ix ix_tup (pv 4) pe_int (fun _ _=>rfl)) (pe_ix ix_tup (pv 6) pe_int (fun _ _=>rfl))) pa_nil))) (pe_tup (pa_cons (pv 3) (pa_cons (pv 5) pa_nil))) rfl)))))
   (pss_one (ps_ret (pv 2)))),?_⟩
  intro r hr0
  have s1:=same_upd (o:=.dT []) (Same.refl H) hr0
  refine ⟨_,rfl,a,rfl,⟨_,s1.seq ha⟩,for_enum (K:=K) (a:=a) (xs:=xs)
   (fun i σ H2=>∃ v3 v4 v5 v6 kvs es,σ = [some (.ref a),some (.ref b),some (.ref r),v3,v4,v5,v6]∧Same H H2∧H2 r = some (.dT kvs)∧AreSteps H2 kvs es∧StepsOk A B es∧(∀ p ∈ A.take i,∀ q ∈ B,subP p q ∈ es.map (·.1))∧es.length≤i * B.length)
   ⟨none,none,none,none,[],[],rfl,s1,upd_same,.nil,⟨by simp,by simp⟩,by simp,by simp⟩ (fun i σ H2 _ ⟨_,_,_,_,_,_,_,s2,_⟩=>s2.seq ha) ?_ ?_⟩
  ·rintro i x TT σ H2 hi ⟨v3,v4,v5,v6,kvs,es,rfl,s2,h2,st,ok,cov,le⟩ nT
   obtain ⟨p,p1,p2⟩:=Pair.get hx hi
   have hil:=(List.getElem?_eq_some_iff.mp p1).1
   refine ⟨TT,_,rfl,SqT.of upd_same,rfl,_,_,rfl,_,_,rfl,rfl,?_⟩
   have s3:=same_upd (o:=.tup [.int (i:Nat),x]) (Same.refl H2) nT
   have s23:=s2.trans s3
   refine ⟨_,rfl,b,rfl,⟨_,s23.seq hb⟩,for_enum (K:=K) (a:=b) (xs:=ys)
    (fun j σ H4=>∃ v5 v6 kvs es,σ = [some (.ref a),some (.ref b),some (.ref r),some (.int (i:Nat)),some x,v5,v6]∧Same H H4∧H4 r = some (.dT kvs)∧AreSteps H4 kvs es∧StepsOk A B es∧(∀ p ∈ A.take i,∀ q ∈ B,subP p q ∈ es.map (·.1))∧(∀ q ∈ B.take j,subP p q ∈ es.map (·.1))∧es.length≤i * B.length+j)
    ⟨_,_,kvs,es,rfl,s23,s3 _ _ h2,AreSteps.keep st (Same.keep s3),ok,cov,by simp,by omega⟩ (fun j σ H4 _ ⟨_,_,_,_,_,s4,_⟩=>s4.seq hb) ?_ ?_⟩
   ·rintro j y UU σ H4 hj ⟨v5,v6,kvs4,es4,rfl,s4,h4,st4,ok4,cov4,cov5,le4⟩ nU
    obtain ⟨q,q1,q2⟩:=Pair.get hy hj
    have hjl:=(List.getElem?_eq_some_iff.mp q1).1
    refine ⟨UU,_,rfl,SqT.of upd_same,rfl,_,_,rfl,_,_,rfl,rfl,?_⟩
    have s5:=same_upd (o:=.tup [.int (j:Nat),y]) (Same.refl H4) nU
    have s45:=s4.trans s5
    refine ⟨_,rfl,_,rfl,(by show 2≤sizeLine; decide),fun t nt=>?_⟩
    have s6:=same_upd (o:=.tup [.int (i:Nat),.int (j:Nat)]) (Same.refl (upd H4 UU (.tup [.int (j:Nat),y]))) nt
    have s46:=s45.trans s6
    obtain ⟨ap,rfl,hap⟩:=p2.same s46
    obtain ⟨aq,rfl,haq⟩:=q2.same s46
    refine ⟨_,rfl,_,rfl,ap,_,_,_,rfl,rfl,SqT.of hap,atI_nat (j:=0) rfl,_,rfl,aq,_,_,_,rfl,rfl,SqT.of haq,atI_nat (j:=0) rfl,_,_,rfl,rfl,?_⟩
    refine ⟨_,rfl,ap,_,_,_,rfl,rfl,SqT.of hap,atI_nat (j:=1) rfl,_,rfl,aq,_,_,_,rfl,rfl,SqT.of haq,atI_nat (j:=1) rfl,_,_,rfl,rfl,(by show 2≤sizeLine; decide),fun d nd=>?_⟩
    have s7:=same_upd (o:=.tup [.int (p.1 - q.1),.int (p.2 - q.2)]) (Same.refl (upd (upd H4 UU (.tup [.int (j:Nat),.ref aq])) t (.tup [.int (i:Nat),.int (j:Nat)]))) nd
    have s57:=s5.trans (s6.trans s7)
    have hr7:=s57 _ _ h4
    have hd7:(upd (upd (upd H4 UU (.tup [.int (j:Nat),.ref aq])) t (.tup [.int (i:Nat),.int (j:Nat)])) d (.tup [.int (p.1 - q.1),.int (p.2 - q.2)])) d = some (.tup ((kpt (subP p q)).map kV)):=upd_same
    have ht7:IsPt (upd (upd (upd H4 UU (.tup [.int (j:Nat),.ref aq])) t (.tup [.int (i:Nat),.int (j:Nat)])) d (.tup [.int (p.1 - q.1),.int (p.2 - q.2)])) (.ref t) ((i:Nat),(j:Nat)):=⟨t,rfl,s7 _ _ upd_same⟩
    have st7:AreSteps _ kvs4 es4:=AreSteps.keep st4 (Same.keep s57)
    have s47:=s4.trans s57
    generalize (upd (upd (upd H4 UU (.tup [.int (j:Nat),.ref aq])) t (.tup [.int (i:Nat),.int (j:Nat)])) d (.tup [.int (p.1 - q.1),.int (p.2 - q.2)])) = H7 at hr7 hd7 ht7 st7 s47
    have lk:=st7.length
    have hm:i * B.length+j < A.length * B.length:=by
     have:i * B.length+B.length≤A.length * B.length:=by
      have:=Nat.mul_le_mul_right B.length (show i+1≤A.length by omega)
      rw [Nat.add_mul,Nat.one_mul] at this; exact this
     omega
    refine ⟨r,_,rfl,DPut.t (k:=kpt (subP p q)) hr7 hd7 (small1000 (by omega)),?_⟩
    refine ⟨_,_,_,putE es4 (subP p q) ((i:Nat),(j:Nat)),rfl,same_upd s47 hr0,upd_same,AreSteps.keep (steps_put ht7 st7 ok4.nd) (Keep.dT hr7 _),⟨putE_nd ok4.nd,fun e he=>?_⟩,fun p' hp' q' hq'=>putE_keys.mpr (.inr (cov4 p' hp' q' hq')),fun q' hq'=>?_,?_⟩
    ·rcases putE_mem he with z | z
     ·rw [z]; dsimp only
      refine ⟨by omega,by omega,by omega,by omega,?_⟩
      rw [ptAt_get p1,ptAt_get q1]
     ·exact ok4.ix e z
    ·rw [take_snoc q1] at hq'
     rcases List.mem_append.mp hq' with z | z
     ·exact putE_keys.mpr (.inr (cov5 q' z))
     ·rw [List.mem_singleton] at z; rw [z]; exact putE_keys.mpr (.inl rfl)
    ·have:=putE_len (d:=subP p q) (v:=(((i:Nat):Int),((j:Nat):Int))) (es:=es4)
     omega
   ·rintro σ H4 ⟨v5,v6,kvs4,es4,rfl,s4,h4,st4,ok4,cov4,cov5,le4⟩
    rw [List.take_of_length_le (by omega)] at cov5
    refine ⟨_,_,_,_,kvs4,es4,rfl,s4,h4,st4,ok4,fun p' hp' q' hq'=>?_,?_⟩
    ·rw [take_snoc p1] at hp'
     rcases List.mem_append.mp hp' with z | z
     ·exact cov4 p' z q' hq'
     ·rw [List.mem_singleton] at z; rw [z]; exact cov5 q' hq'
    ·rw [Nat.add_mul,Nat.one_mul]; omega
  ·rintro σ H2 ⟨v3,v4,v5,v6,kvs,es,rfl,s2,h2,st,ok,cov,le⟩
   rw [List.take_of_length_le (by omega)] at cov
   exact ⟨_,rfl,k r kvs es H2 hr0 s2 h2 st ok cov (by rw [← lx]; exact le)⟩
end
end Toy
set_option maxRecDepth 100000
namespace Toy
open PySem L2 Geo
section
variable {P:Program} {w:World} {K:PySem.W.Frag} {mg:Str→Option Value} {base:Heap}
def spBeside (K:PySem.W.Frag):Sp:=fun vs H Q _=>∃ a xs A B,vs = [.ref a]∧SqL K H a xs∧ArePts H xs A∧(∀ q ∈ A,Bd q)∧(∀ q ∈ B,Bd q)∧(A = []∨B = []) ∧
 ∀ t l H',Same H H'→IsTri H' (.ref t) l→LineOk A B l→Q (.ref t) H'
theorem scBeside:FnScope ["ones"] ["ones"] (defScope sBeside):=⟨rfl,rfl,rfl,by decide +kernel,rfl,by decide +kernel,by decide +kernel⟩
theorem ok_beside {f:Addr} {fd:FuncData} (F:Fun K "line_beside" "line_beside" sBeside f fd) (T:Txt mg):FnOk P w K mg base CX0 1 f fd ["ones"] (spBeside K):=by
 refine F.ok scBeside (fun vs H Q E h=>?_) (fun cdv A' outer s H vs Q E hr h=>?_)
 ·obtain ⟨a,xs,A,B,rfl,_⟩:=h; rfl
 ·obtain ⟨a,xs,A,B,rfl,ha,hx,bA,bB,hAB,k⟩:=h
  obtain ⟨t0,hf⟩:=T.far
  have lx:=hx.length
  refine ⟨_,pss_cons (ps_if (pt_cmpR op_eq (pe_callB call_len_seq rfl T.len PySem.boot_len (pa_cons (pv 0) pa_nil)) pe_int (nomark _)) (pss_one (ps_ret (pe_tup (pa_cons pe_int (pa_cons pe_int (pa_cons (pe_op op_sub (pe_un un_neg (pe_glob (v:=.int 1000) rfl hf ⟨t0,rfl⟩)) pe_int) pa_nil)))))) pss_nil)
   (pss_one (ps_ret (pe_tup (pa_cons pe_int (pa_cons pe_int (pa_cons (pe_op op_add (pe_glob (v:=.int 1000) rfl hf ⟨t0,rfl⟩) pe_int) pa_nil)))))),?_⟩
  refine ⟨_,rfl,a,_,rfl,.inl ha,rfl,_,rfl,?_⟩
  by_cases h0:A = []
  ·subst h0
   have:xs.length = 0:=by simpa using lx
   rw [show (decide (V.int (xs.length:Int) = V.int 0)) = true by rw [this]; rfl]
   refine iteT ⟨_,rfl,_,_,rfl,rfl,(by show 3≤sizeLine; decide),fun u hu=>?_⟩
   refine k u (1,0,-1001) _ (same_upd (Same.refl H) hu) ⟨u,rfl,upd_same⟩ ⟨fun q hq=>by simp at hq,fun q hq=>?_⟩
   have:=bB q hq
   unfold Bd at this; unfold wrt; dsimp only; omega
  ·have lA:0 < A.length:=List.length_pos_iff.mpr h0
   rw [decide_eq_false (show ¬ V.int (xs.length:Int) = V.int 0 from fun e=>by have:=V.int.inj e; omega)]
   refine iteF ⟨_,_,rfl,rfl,(by show 3≤sizeLine; decide),fun u hu=>?_⟩
   have hB:B = []:=hAB.resolve_left h0
   subst hB
   refine k u (1,0,1001) _ (same_upd (Same.refl H) hu) ⟨u,rfl,upd_same⟩ ⟨fun q hq=>?_,fun q hq=>by simp at hq⟩
   have:=bA q hq
   unfold Bd at this; unfold wrt; dsimp only; omega
abbrev n_sLBetween:List Str:=["ones","others","shutting","rising","low","high"]
def spLBetween (K:PySem.W.Frag):Sp:=fun vs H Q _=>∃ a xs A b ys B v l D,vs = [.ref a,.ref b,v]∧SqL K H a xs∧ArePts H xs A∧SqL K H b ys∧ArePts H ys B∧A ≠ []∧B ≠ []∧A.length≤200∧B.length≤200∧(∀ q ∈ A,Bd q)∧(∀ q ∈ B,Bd q)∧IsTri H v l ∧
 (∀ p ∈ A,∀ q ∈ B,subP p q ∈ D)∧Out D (0,0) l∧∀ t l' H',Same H H'→IsTri H' (.ref t) l'→LineOk A B l'→Q (.ref t) H'
theorem scLBetween:FnScope n_sLBetween ["ones","others","shutting"] (defScope sLBetween):=⟨rfl,rfl,rfl,by decide +kernel,rfl,by decide +kernel,by decide +kernel⟩
abbrev c_lbA:Scope:={ kind:=.function,names:=[(".0",.local),("one",.local),("worth",.globalImplicit),("rising",.free)],isGenerator:=false,isCoroutine:=false }
theorem cs_lbA {cdv:Value} {A:Around} {outer:List Env} {s:Shared} {H:Hp} {E:XK} {f:Addr}:CompScope (cxOf CX0 P w K mg base n_sLBetween "line_between" (defScope sLBetween) f cdv A outer s H E).nox c_lbA ["one","rising"] [none,some 3] where
 kind:=rfl
 nocell:=by decide +kernel
 names:=by decide +kernel
 frees:=by show ∀ z ∈ c_lbA.names,z.2 = .free→(defScope sLBetween).names.lookup z.1 = some .cell; decide +kernel
 nd:=by decide +kernel
 len:=rfl
 cap:=fun i j h=>match i,h with
  | 0,h=>by simp at h
  | 1,h=>by
   simp at h; subst h
   exact ⟨"rising",rfl,rfl,by decide +kernel,rfl,.inl rfl⟩
  | n+2,h=>by simp at h
theorem nd_lbA:(["one","rising"]:List Str).Nodup:=by decide +kernel
abbrev c_lbB:Scope:={ kind:=.function,names:=[(".0",.local),("other",.local),("worth",.globalImplicit),("rising",.free)],isGenerator:=false,isCoroutine:=false }
theorem cs_lbB {cdv:Value} {A:Around} {outer:List Env} {s:Shared} {H:Hp} {E:XK} {f:Addr}:CompScope (cxOf CX0 P w K mg base n_sLBetween "line_between" (defScope sLBetween) f cdv A outer s H E).nox c_lbB ["other","rising"] [none,some 3] where
 kind:=rfl
 nocell:=by decide +kernel
 names:=by decide +kernel
 frees:=by show ∀ z ∈ c_lbB.names,z.2 = .free→(defScope sLBetween).names.lookup z.1 = some .cell; decide +kernel
 nd:=by decide +kernel
 len:=rfl
 cap:=fun i j h=>match i,h with
  | 0,h=>by simp at h
  | 1,h=>by
   simp at h; subst h
   exact ⟨"rising",rfl,rfl,by decide +kernel,rfl,.inl rfl⟩
  | n+2,h=>by simp at h
theorem nd_lbB:(["other","rising"]:List Str).Nodup:=by decide +kernel
theorem ok_lbetween {f g:Addr} {fd gd:FuncData} (F:Fun K "line_between" "line_between" sLBetween f fd) (T:Txt mg)
  (WO:FnOk P w K mg base CX0 1 g gd ["line","point"] (spWorth K)) (b3:Binds K gd ["line","point"] []) (k3:PySem.W.keepIn K (.ref g) = true) (m3:mg "worth" = some (.ref g)):FnOk P w K mg base CX0 2 f fd ["ones","others","shutting"] (spLBetween K):=by
 refine F.ok scLBetween (fun vs H Q E h=>?_) (fun cdv A' outer s H vs Q E hr h=>?_)
 ·obtain ⟨a,xs,A,b,ys,B,v,l,D,rfl,_⟩:=h; rfl
 ·obtain ⟨a,xs,A,b,ys,B,v,l,D,rfl,ha,hx,hb,hy,nA,nB,lA,lB,bA,bB,⟨av,rfl,hav⟩,cov,out,k⟩:=h
  have lx:=hx.length
  have ly:=hy.length
  refine ⟨_,pss_cons (ps_set (i:=3) scLBetween.nd rfl (Or.inr rfl) (pe_tup (pa_cons (pe_ix ix_tup (pv 2) pe_int (fun _ _=>rfl)) (pa_cons (pe_ix ix_tup (pv 2) pe_int (fun _ _=>rfl)) (pa_cons pe_int pa_nil)))))
   (pss_cons (ps_set (i:=4) scLBetween.nd rfl (Or.inl rfl) (pe_callB (call_minL hr.hd) rfl T.min PyProof.Rows.boot_min (pa_cons (pe_comp cs_lbA rfl (pi_list (pv 0)) (fun _ _ _ _ _=>pg_name (i:=0) nd_lbA rfl (Or.inl rfl)) (fun _ _ _ _ _=>pif_nil)
     (fun _ _ _ _ _=>pe_call WO hr rfl m3 k3 b3 .nil pass0 (pa_cons (pv 1) (pa_cons (pv 0) pa_nil)))) pa_nil)))
   (pss_cons (ps_set (i:=5) scLBetween.nd rfl (Or.inl rfl) (pe_callB (call_maxL hr.hd) rfl T.max PyProof.Rows.boot_max (pa_cons (pe_comp cs_lbB rfl (pi_list (pv 1)) (fun _ _ _ _ _=>pg_name (i:=0) nd_lbB rfl (Or.inl rfl)) (fun _ _ _ _ _=>pif_nil)
     (fun _ _ _ _ _=>pe_call WO hr rfl m3 k3 b3 .nil pass0 (pa_cons (pv 1) (pa_cons (pv 0) pa_nil)))) pa_nil)))
   (pss_one (ps_ret (pe_tup (pa_cons (pe_op op_mul pe_int (pe_ix ix_tup (pv 2) pe_int (fun _ _=>rfl))) (pa_cons (pe_op op_mul pe_int (pe_ix ix_tup (pv 2) pe_int (fun _ _=>rfl))) (pa_cons (pe_op op_sub (pe_un un_neg (pv 4)) (pv 5)) pa_nil)))))))),?_⟩
  refine ⟨_,rfl,av,_,_,_,rfl,rfl,SqT.of hav,atI_nat (j:=0) rfl,_,rfl,av,_,_,_,rfl,rfl,SqT.of hav,atI_nat (j:=1) rfl,(by show 3≤sizeLine; decide),fun u nu=>?_⟩
  have s1:=same_upd (o:=.tup [.int l.1,.int l.2.1,.int 0]) (Same.refl H) nu
  have hu1:IsTri (upd H u (.tup [.int l.1,.int l.2.1,.int 0])) (.ref u) (l.1,l.2.1,0):=⟨u,rfl,upd_same⟩
  generalize (upd H u (.tup [.int l.1,.int l.2.1,.int 0])) = H1 at s1 hu1
  refine ⟨_,rfl,a,rfl,⟨_,s1.seq ha⟩,fun D1 hD1=>?_⟩
  refine comp_list (K:=K) (a:=a) (xs:=xs) (fun j σ' H'=>∃ v1,σ' = [v1,some (.ref u)]∧Same H1 H'∧H' D1 = some (.lst (((A.take j).map (wrt (l.1,l.2.1,0))).map V.int)))
   ⟨none,rfl,same_upd (Same.refl H1) hD1,upd_same⟩ (fun j σ' H' _ ⟨_,_,s4,_⟩=>s4.seq (s1.seq ha)) ?_ ?_
  ·rintro j x σ' H' hj ⟨v1,rfl,s4,h4⟩
   obtain ⟨p,p1,p2⟩:=Pair.get hx hj
   have hjl:=(List.getElem?_eq_some_iff.mp hj).1
   dsimp only [gName,tYes]
   refine iteT ⟨_,rfl,_,rfl,.ref u,x,(l.1,l.2.1,0),p,rfl,hu1.same s4,(p2.same (s1.trans s4)).k,(bA p (List.mem_of_getElem? p1)).w,_,h4,small1000 (by simp; omega),_,rfl,same_upd s4 hD1,?_⟩
   rw [upd_same,take_snoc p1]; simp
  ·rintro σ' H2 ⟨v1,rfl,s2,h2⟩
   rw [List.take_of_length_le (by omega)] at h2
   have s12:=s1.trans s2
   refine ⟨D1,_,rfl,SqL.of h2,by simp [nA],fun low lo1 lo2=>?_⟩
   refine ⟨_,rfl,b,rfl,⟨_,s12.seq hb⟩,fun D2 hD2=>?_⟩
   refine comp_list (K:=K) (a:=b) (xs:=ys) (fun j σ' H'=>∃ v1,σ' = [v1,some (.ref u)]∧Same H2 H'∧H' D2 = some (.lst (((B.take j).map (wrt (l.1,l.2.1,0))).map V.int)))
    ⟨none,rfl,same_upd (Same.refl H2) hD2,upd_same⟩ (fun j σ' H' _ ⟨_,_,s4,_⟩=>s4.seq (s12.seq hb)) ?_ ?_
   ·rintro j x σ' H' hj ⟨v1,rfl,s4,h4⟩
    obtain ⟨p,p1,p2⟩:=Pair.get hy hj
    have hjl:=(List.getElem?_eq_some_iff.mp hj).1
    dsimp only [gName,tYes]
    refine iteT ⟨_,rfl,_,rfl,.ref u,x,(l.1,l.2.1,0),p,rfl,hu1.same (s2.trans s4),(p2.same (s12.trans s4)).k,(bB p (List.mem_of_getElem? p1)).w,_,h4,small1000 (by simp; omega),_,rfl,same_upd s4 hD2,?_⟩
    rw [upd_same,take_snoc p1]; simp
   ·rintro σ' H3 ⟨v1,rfl,s3,h3⟩
    rw [List.take_of_length_le (by omega)] at h3
    have s13:=s12.trans s3
    refine ⟨D2,_,rfl,SqL.of h3,by simp [nB],fun high hi1 hi2=>?_⟩
    have hav3:=s13 _ _ hav
    refine ⟨_,rfl,av,_,_,_,rfl,rfl,SqT.of hav3,atI_nat (j:=0) rfl,_,_,rfl,rfl,.inl ⟨by decide,by decide⟩,?_⟩
    refine ⟨_,rfl,av,_,_,_,rfl,rfl,SqT.of hav3,atI_nat (j:=1) rfl,_,_,rfl,rfl,.inl ⟨by decide,by decide⟩,?_⟩
    refine ⟨_,rfl,_,rfl,_,rfl,_,_,rfl,rfl,(by show 3≤sizeLine; decide),fun t nt=>?_⟩
    have s4:=same_upd (o:=.tup [.int (2 * l.1),.int (2 * l.2.1),.int (-low - high)]) (Same.refl H3) nt
    refine k t (2 * l.1,2 * l.2.1,-low - high) _ (s13.trans s4) ⟨t,rfl,upd_same⟩ (line_between_ok cov out ?_ (fun p hp=>lo2 _ (List.mem_map.mpr ⟨p,hp,rfl⟩)) ?_ (fun q hq=>hi2 _ (List.mem_map.mpr ⟨q,hq,rfl⟩)))
    ·obtain ⟨p,hp,e⟩:=List.mem_map.mp lo1; exact ⟨p,hp,e.symm⟩
    ·obtain ⟨q,hq,e⟩:=List.mem_map.mp hi1; exact ⟨q,hq,e.symm⟩
def emb (acc:List Pt):List (Key×V):=(acc.map fun q=>(q.1,V.int q.2)).map fun (p:Int×V)=>((Sum.inl p.1:Key),p.2)
theorem emb_val (n:Int):∀ acc:List Pt,((valV (emb acc) (Sum.inl n:Key)).getD (V.int 0)) = V.int (lookP acc n)
 | []=>rfl
 | q :: r=>by
  unfold lookP
  by_cases h:q.1 = n
  ·rw [if_pos h]
   have:valV (emb (q :: r)) (Sum.inl n:Key) = some (V.int q.2):=valV_pos (show (Sum.inl q.1:Key) = Sum.inl n by rw [h])
   rw [this]; rfl
  ·rw [if_neg h,← emb_val n r]
   have:valV (emb (q :: r)) (Sum.inl n:Key) = valV (emb r) (Sum.inl n:Key):=valV_neg (fun z=>h (Sum.inl.inj z))
   rw [this]
theorem kput_cons {p:Key×V} {r:List (Key×V)} {k:Key} {v:V} (h:p.1 = k) (hn:k ∉ r.map (·.1)):putK (p :: r) k v = (p.1,v) :: r:=by
 have e:r.map (fun kv=>if kv.1 = k then (kv.1,v) else kv) = r:=by
  conv=>rhs; rw [← List.map_id r]
  refine List.map_congr_left fun q hq=>?_
  rw [if_neg (fun z=>hn (List.mem_map.mpr ⟨q,hq,z⟩))]; rfl
 unfold putK
 rw [if_pos (by simp [h]),List.map_cons,if_pos h,e]
theorem kput_skip {p:Key×V} {r:List (Key×V)} {k:Key} {v:V} (h:¬ p.1 = k):putK (p :: r) k v = p :: putK r k v:=by
 unfold putK
 rw [List.any_cons,show decide (p.1 = k) = false from decide_eq_false h,Bool.false_or]
 by_cases q:(r.any fun kv=>decide (kv.1 = k)) = true
 ·rw [if_pos q,if_pos q,List.map_cons,if_neg h]
 ·rw [if_neg q,if_neg q]; rfl
theorem emb_put (n s:Int):∀ acc:List Pt,(acc.map (·.1)).Nodup→putK (emb acc) (Sum.inl n:Key) (V.int (lookP acc n+s)) = emb (addP acc n s)
 | [],_=>rfl
 | q :: r,nd=>by
  rw [List.map_cons,List.nodup_cons] at nd
  unfold lookP addP
  by_cases h:q.1 = n
  ·rw [if_pos h,if_pos h]
   show putK (((Sum.inl q.1:Key),V.int q.2) :: emb r) (Sum.inl n) _ = ((Sum.inl q.1:Key),V.int (q.2+s)) :: emb r
   rw [kput_cons (by rw [h])]
   intro z
   apply nd.1
   rw [h]
   obtain ⟨x,hx,ex⟩:=List.mem_map.mp z
   unfold emb at hx
   rw [List.map_map] at hx
   obtain ⟨y,hy,ey⟩:=List.mem_map.mp hx
   rw [← ey] at ex
   exact List.mem_map.mpr ⟨y,hy,Sum.inl.inj ex⟩
  ·rw [if_neg h,if_neg h]
   show putK (((Sum.inl q.1:Key),V.int q.2) :: emb r) (Sum.inl n) _ = ((Sum.inl q.1:Key),V.int q.2) :: emb (addP r n s)
   rw [kput_skip (fun z=>h (Sum.inl.inj z)),emb_put n s r nd.2]
theorem Keep.dK {H:Hp} {r:Addr} {kvs:List (Key×V)} (h:H r = some (.dK kvs)) (o:HO):Keep H (upd H r o):=fun a ys e=>by rw [upd_ne (ne_of e h (by intro z; cases z))]; exact e
abbrev n_sAdded:List Str:=["shares","sums","number","share"]
def spAdded (K:PySem.W.Frag):Sp:=fun vs H Q _=>∃ a zs prs,vs = [.ref a]∧SqL K H a zs∧ArePts H zs prs∧prs.length≤200 ∧
 ∀ r ws out H',H r = none→Same H H'→H' r = some (.lst ws)→ArePts H' ws out→AddOk prs out→Q (.ref r) H'
theorem scAdded:FnScope n_sAdded ["shares"] (defScope sAdded):=⟨rfl,rfl,rfl,by decide +kernel,rfl,by decide +kernel,by decide +kernel⟩
theorem ok_added {f:Addr} {fd:FuncData} (F:Fun K "added_up" "added_up" sAdded f fd) (T:Txt mg):FnOk P w K mg base CX0 1 f fd ["shares"] (spAdded K):=by
 refine F.ok scAdded (fun vs H Q E h=>?_) (fun cdv A' outer s H vs Q E hr h=>?_)
 ·obtain ⟨a,zs,prs,rfl,_⟩:=h; rfl
 ·obtain ⟨a,zs,prs,rfl,hq,hp,hl,k⟩:=h
  have hu:=hu_of hr
  have lz:=hp.length
  refine ⟨_,pss_cons (ps_set (i:=1) scAdded.nd rfl (Or.inl rfl) pe_dnewK)
   (pss_cons (ps_for PassesOwn.never rfl (pi_list (pv 0)) (pg_tup (n:=2) rfl (pgs_cons (pg_name (i:=2) scAdded.nd rfl (Or.inl rfl)) (pgs_cons (pg_name (i:=3) scAdded.nd rfl (Or.inl rfl)) pgs_nil)))
    (pss_one (ps_dput hu (pv 1) (pv 2) (pe_op op_add (pe_dget2 hu (pv 1) (pv 2) pe_int ⟨rfl,rfl,rfl,rfl⟩) (pv 3)) rfl)))
   (pss_one (ps_ret (pe_listitems hr.hd rfl T.list (pv 1))))),?_⟩
  intro d hd0
  have s1:=same_upd (o:=.dK []) (Same.refl H) hd0
  refine ⟨_,rfl,a,rfl,⟨_,s1.seq hq⟩,for_list (K:=K) (a:=a) (xs:=zs)
   (fun i σ H2=>∃ v2 v3 out,σ = [some (.ref a),some (.ref d),v2,v3]∧Same H H2∧H2 d = some (.dK (emb out))∧AddOk (prs.take i) out)
   ⟨none,none,[],rfl,s1,upd_same,AddOk.nil⟩ (fun i σ H2 _ ⟨_,_,_,_,s2,_⟩=>s2.seq hq) ?_ ?_⟩
  ·rintro i y σ H2 hi ⟨v2,v3,out,rfl,s2,h2,ok⟩
   obtain ⟨p,p1,p2⟩:=Pair.get hp hi
   have hil:=(List.getElem?_eq_some_iff.mp p1).1
   obtain ⟨t,rfl,ht⟩:=p2.same s2
   refine ⟨t,_,rfl,SqT.of ht,rfl,_,_,rfl,_,_,rfl,rfl,?_⟩
   have lo:=ok.len
   rw [List.length_take] at lo
   refine ⟨_,rfl,d,rfl,.inl ⟨_,.inl h2⟩,_,rfl,_,DGet.k (k:=(Sum.inl p.1:Key)) h2,?_⟩
   rw [emb_val]
   refine ⟨_,rfl,_,_,rfl,rfl,_,rfl,_,rfl,d,_,rfl,DPut.k (k:=(Sum.inl p.1:Key)) h2 (small1000 (by unfold emb; simp; omega)),?_⟩
   refine ⟨_,_,addP out p.1 p.2,rfl,same_upd s2 hd0,?_,?_⟩
   ·rw [upd_same,emb_put _ _ _ ok.nd]
   ·rw [take_snoc p1]; exact ok.snoc p
  ·rintro σ H2 ⟨v2,v3,out,rfl,s2,h2,ok⟩
   rw [List.take_of_length_le (by omega)] at ok
   refine ⟨_,rfl,d,out.map (fun q:Pt=>((q.1:Int),V.int q.2)),rfl,h2,fun l ws H3 nl s3 h3 w3=>?_⟩
   refine k l ws out H3 (s2.free nl) (s2.trans s3) h3 ?_ ok
   have lw:=w3.length
   rw [List.length_map] at lw
   refine Paired.of_map lw fun i x q e1 e2=>?_
   obtain ⟨p,p1,b,rfl,hb⟩:=Pair.get w3 e1
   rw [List.getElem?_map,e2] at p1
   have:p = (q.1,V.int q.2):=by simpa using p1.symm
   subst this
   exact ⟨b,rfl,hb⟩
abbrev n_sWSpot:List Str:=["points","shares","x","y"]
def sumX (A prs:List Pt):Int:=(prs.map fun q=>q.2 * (ptAt A q.1).1).sum
def sumY (A prs:List Pt):Int:=(prs.map fun q=>q.2 * (ptAt A q.1).2).sum
def spotT (A prs:List Pt):Tri:=(sumX A prs,sumY A prs,(prs.map (·.2)).sum)
def spWSpot (K:PySem.W.Frag):Sp:=fun vs H Q _=>∃ a xs A b ys prs,vs = [.ref a,.ref b]∧SqL K H a xs∧ArePts H xs A∧(∀ q ∈ A,Bd q)∧SqL K H b ys∧ArePts H ys prs∧prs.length≤200∧(∀ q ∈ prs,0≤q.1∧q.1 < A.length∧0≤q.2)∧0 < (spotT A prs).2.2∧(spotT A prs).2.2≤64000000 ∧
 ∀ r H',H r = none→Same H H'→IsTri H' (.ref r) (lowM (spotT A prs))→Q (.ref r) H'
theorem scWSpot:FnScope n_sWSpot ["points","shares"] (defScope sWSpot):=⟨rfl,rfl,rfl,by decide +kernel,rfl,by decide +kernel,by decide +kernel⟩
abbrev c_wsx:Scope:={ kind:=.function,names:=[(".0",.local),("number",.local),("share",.local),("points",.free)],isGenerator:=false,isCoroutine:=false }
theorem cs_wsx {cdv:Value} {A:Around} {outer:List Env} {s:Shared} {H:Hp} {E:XK} {f:Addr}:CompScope (cxOf CX0 P w K mg base n_sWSpot "weighed_spot" (defScope sWSpot) f cdv A outer s H E).nox c_wsx ["number","share","points"] [none,none,some 0] where
 kind:=rfl
 nocell:=by decide +kernel
 names:=by decide +kernel
 frees:=by show ∀ z ∈ c_wsx.names,z.2 = .free→(defScope sWSpot).names.lookup z.1 = some .cell; decide +kernel
 nd:=by decide +kernel
 len:=rfl
 cap:=fun i j h=>match i,h with
  | 0,h=>by simp at h
  | 1,h=>by simp at h
  | 2,h=>by
   simp at h; subst h
   exact ⟨"points",rfl,rfl,by decide +kernel,rfl,.inl rfl⟩
  | n+3,h=>by simp at h
theorem nd_wsx:(["number","share","points"]:List Str).Nodup:=by decide +kernel
abbrev c_wsy:Scope:={ kind:=.function,names:=[(".0",.local),("number",.local),("share",.local),("points",.free)],isGenerator:=false,isCoroutine:=false }
theorem cs_wsy {cdv:Value} {A:Around} {outer:List Env} {s:Shared} {H:Hp} {E:XK} {f:Addr}:CompScope (cxOf CX0 P w K mg base n_sWSpot "weighed_spot" (defScope sWSpot) f cdv A outer s H E).nox c_wsy ["number","share","points"] [none,none,some 0] where
 kind:=rfl
 nocell:=by decide +kernel
 names:=by decide +kernel
 frees:=by show ∀ z ∈ c_wsy.names,z.2 = .free→(defScope sWSpot).names.lookup z.1 = some .cell; decide +kernel
 nd:=by decide +kernel
 len:=rfl
 cap:=fun i j h=>match i,h with
  | 0,h=>by simp at h
  | 1,h=>by simp at h
  | 2,h=>by
   simp at h; subst h
   exact ⟨"points",rfl,rfl,by decide +kernel,rfl,.inl rfl⟩
  | n+3,h=>by simp at h
theorem nd_wsy:(["number","share","points"]:List Str).Nodup:=by decide +kernel
abbrev c_wss:Scope:={ kind:=.function,names:=[(".0",.local),("number",.local),("share",.local)],isGenerator:=false,isCoroutine:=false }
theorem cs_wss {cdv:Value} {A:Around} {outer:List Env} {s:Shared} {H:Hp} {E:XK} {f:Addr}:CompScope (cxOf CX0 P w K mg base n_sWSpot "weighed_spot" (defScope sWSpot) f cdv A outer s H E).nox c_wss ["number","share"] [none,none] where
 kind:=rfl
 nocell:=by decide +kernel
 names:=by decide +kernel
 frees:=by show ∀ z ∈ c_wss.names,z.2 = .free→(defScope sWSpot).names.lookup z.1 = some .cell; decide +kernel
 nd:=by decide +kernel
 len:=rfl
 cap:=fun i j h=>match i,h with
  | 0,h=>by simp at h
  | 1,h=>by simp at h
  | n+2,h=>by simp at h
theorem nd_wss:(["number","share"]:List Str).Nodup:=by decide +kernel
theorem ok_wspot {f g:Addr} {fd gd:FuncData} (F:Fun K "weighed_spot" "weighed_spot" sWSpot f fd) (T:Txt mg) (G:FnOk P w K mg base CX0 2 g gd ["three"] spLowest) (bG:Binds K gd ["three"] []) (kG:PySem.W.keepIn K (.ref g) = true) (mG:mg "lowest" = some (.ref g)) :
  FnOk P w K mg base CX0 3 f fd ["points","shares"] (spWSpot K):=by
 refine F.ok scWSpot (fun vs H Q E h=>?_) (fun cdv A' outer s H vs Q E hr h=>?_)
 ·obtain ⟨a,xs,A,b,ys,prs,rfl,_⟩:=h; rfl
 ·obtain ⟨a,xs,A,b,ys,prs,rfl,ha,hx,bA,hb,hy,lp,ix,pos,lt,k⟩:=h
  have ly:=hy.length
  have lx:=hx.length
  refine ⟨_,pss_cons (ps_set (i:=2) scWSpot.nd rfl (Or.inl rfl) (pe_callB (call_sumL hr.hd) rfl T.sum PyProof.Rows.boot_sum (pa_cons (pe_comp cs_wsx rfl (pi_list (pv 1))
    (fun _ _ _ _ _=>pgt (K':=K) rfl (pg_tup (n:=2) rfl (pgs_cons (pg_name (i:=0) nd_wsx rfl (Or.inl rfl)) (pgs_cons (pg_name (i:=1) nd_wsx rfl (Or.inl rfl)) pgs_nil)))) (fun _ _ _ _ _=>pif_nil)
    (fun _ _ _ _ _=>pe_op op_mul (pe_ix (ixt (K':=K) rfl) (pe_ix (ixl (K':=K) rfl) (pv 2) (pv 0) (fun _ _=>rfl)) pe_int (fun _ _=>rfl)) (pv 1))) pa_nil)))
   (pss_cons (ps_set (i:=3) scWSpot.nd rfl (Or.inl rfl) (pe_callB (call_sumL hr.hd) rfl T.sum PyProof.Rows.boot_sum (pa_cons (pe_comp cs_wsy rfl (pi_list (pv 1))
    (fun _ _ _ _ _=>pgt (K':=K) rfl (pg_tup (n:=2) rfl (pgs_cons (pg_name (i:=0) nd_wsy rfl (Or.inl rfl)) (pgs_cons (pg_name (i:=1) nd_wsy rfl (Or.inl rfl)) pgs_nil)))) (fun _ _ _ _ _=>pif_nil)
    (fun _ _ _ _ _=>pe_op op_mul (pe_ix (ixt (K':=K) rfl) (pe_ix (ixl (K':=K) rfl) (pv 2) (pv 0) (fun _ _=>rfl)) pe_int (fun _ _=>rfl)) (pv 1))) pa_nil)))
   (pss_one (ps_ret (pe_call G hr rfl mG kG bG .nil pass0 (pa_cons (pe_tup (pa_cons (pv 2) (pa_cons (pv 3) (pa_cons (pe_callB (call_sumL hr.hd) rfl T.sum PyProof.Rows.boot_sum (pa_cons (pe_comp cs_wss rfl (pi_list (pv 1))
    (fun _ _ _ _ _=>pgt (K':=K) rfl (pg_tup (n:=2) rfl (pgs_cons (pg_name (i:=0) nd_wss rfl (Or.inl rfl)) (pgs_cons (pg_name (i:=1) nd_wss rfl (Or.inl rfl)) pgs_nil)))) (fun _ _ _ _ _=>pif_nil)
    (fun _ _ _ _ _=>pv 1)) pa_nil)) pa_nil)))) pa_nil))))),?_⟩
  have at':∀ {q:Pt} {H':Hp},q ∈ prs→Same H H'→∃ u:Addr,atI xs q.1 = some (.ref u)∧H' u = some (.tup [.int (ptAt A q.1).1,.int (ptAt A q.1).2])∧Bd (ptAt A q.1):=fun {q H'} hq s'=>by
   obtain ⟨i1,i2,_⟩:=ix q hq
   have hk:q.1.toNat < A.length:=by omega
   have g:A[q.1.toNat]? = some (ptAt A q.1):=by unfold ptAt; rw [List.getD_eq_getElem?_getD,List.getElem?_eq_getElem hk]; rfl
   obtain ⟨u,u1,au,rfl,u2⟩:=Pair.get' hx g
   refine ⟨au,?_,s' _ _ u2,bA _ (List.mem_of_getElem? g)⟩
   have:=atI_nat u1
   rw [show ((q.1.toNat:Nat):Int) = q.1 by omega] at this
   exact this
  refine ⟨_,rfl,b,rfl,⟨_,hb⟩,fun D1 hD1=>?_⟩
  refine comp_list (K:=K) (a:=b) (xs:=ys) (fun j σ' H'=>∃ v1 v2,σ' = [v1,v2,some (.ref a)]∧Same H H'∧H' D1 = some (.lst (((prs.take j).map fun q=>(ptAt A q.1).1 * q.2).map V.int)))
   ⟨none,none,rfl,same_upd (Same.refl H) hD1,upd_same⟩ (fun j σ' H' _ ⟨_,_,_,s4,_⟩=>s4.seq hb) ?_ ?_
  ·rintro j x σ' H' hj ⟨v1,v2,rfl,s4,h4⟩
   obtain ⟨q,q1,q2⟩:=Pair.get hy hj
   have hjl:=(List.getElem?_eq_some_iff.mp hj).1
   obtain ⟨t,rfl,ht⟩:=q2.same s4
   obtain ⟨u,u1,u2,bu⟩:=at' (List.mem_of_getElem? q1) s4
   refine ⟨t,_,rfl,SqT.of ht,rfl,_,_,rfl,_,_,rfl,rfl,?_⟩
   dsimp only [tYes]
   refine iteT ⟨_,rfl,_,rfl,a,_,_,_,rfl,rfl,s4.seq ha,u1,u,_,_,_,rfl,rfl,SqT.of u2,atI_nat (j:=0) rfl,_,rfl,_,_,rfl,rfl,mulL _ _ (by have:=bu.1; omega) (by have:=bu.2.1; omega),_,h4,small1000 (by simp; omega),_,_,rfl,same_upd s4 hD1,?_⟩
   rw [upd_same,take_snoc q1]; simp
  ·rintro σ' H1 ⟨v1,v2,rfl,s1,h1⟩
   rw [List.take_of_length_le (by omega)] at h1
   refine ⟨D1,_,rfl,SqL.of h1,?_⟩
   refine ⟨_,rfl,b,rfl,⟨_,s1.seq hb⟩,fun D2 hD2=>?_⟩
   refine comp_list (K:=K) (a:=b) (xs:=ys) (fun j σ' H'=>∃ v1 v2,σ' = [v1,v2,some (.ref a)]∧Same H1 H'∧H' D2 = some (.lst (((prs.take j).map fun q=>(ptAt A q.1).2 * q.2).map V.int)))
    ⟨none,none,rfl,same_upd (Same.refl H1) hD2,upd_same⟩ (fun j σ' H' _ ⟨_,_,_,s4,_⟩=>s4.seq (s1.seq hb)) ?_ ?_
   ·rintro j x σ' H' hj ⟨v1,v2,rfl,s4,h4⟩
    obtain ⟨q,q1,q2⟩:=Pair.get hy hj
    have hjl:=(List.getElem?_eq_some_iff.mp hj).1
    obtain ⟨t,rfl,ht⟩:=q2.same (s1.trans s4)
    obtain ⟨u,u1,u2,bu⟩:=at' (List.mem_of_getElem? q1) (s1.trans s4)
    refine ⟨t,_,rfl,SqT.of ht,rfl,_,_,rfl,_,_,rfl,rfl,?_⟩
    dsimp only [tYes]
    refine iteT ⟨_,rfl,_,rfl,a,_,_,_,rfl,rfl,(s1.trans s4).seq ha,u1,u,_,_,_,rfl,rfl,SqT.of u2,atI_nat (j:=1) rfl,_,rfl,_,_,rfl,rfl,mulL _ _ (by have:=bu.2.2.1; omega) (by have:=bu.2.2.2; omega),_,h4,small1000 (by simp; omega),_,_,rfl,same_upd s4 hD2,?_⟩
    rw [upd_same,take_snoc q1]; simp
   ·rintro σ' H2 ⟨v1,v2,rfl,s2,h2⟩
    rw [List.take_of_length_le (by omega)] at h2
    have s12:=s1.trans s2
    refine ⟨D2,_,rfl,SqL.of h2,?_⟩
    refine ⟨_,rfl,_,rfl,_,rfl,b,rfl,⟨_,s12.seq hb⟩,fun D3 hD3=>?_⟩
    refine comp_list (K:=K) (a:=b) (xs:=ys) (fun j σ' H'=>∃ v1 v2,σ' = [v1,v2]∧Same H2 H'∧H' D3 = some (.lst (((prs.take j).map (·.2)).map V.int)))
     ⟨none,none,rfl,same_upd (Same.refl H2) hD3,upd_same⟩ (fun j σ' H' _ ⟨_,_,_,s4,_⟩=>s4.seq (s12.seq hb)) ?_ ?_
    ·rintro j x σ' H' hj ⟨v1,v2,rfl,s4,h4⟩
     obtain ⟨q,q1,q2⟩:=Pair.get hy hj
     have hjl:=(List.getElem?_eq_some_iff.mp hj).1
     obtain ⟨t,rfl,ht⟩:=q2.same (s12.trans s4)
     refine ⟨t,_,rfl,SqT.of ht,rfl,_,_,rfl,_,_,rfl,rfl,?_⟩
     dsimp only [tYes]
     refine iteT ⟨_,rfl,_,h4,small1000 (by simp; omega),_,_,rfl,same_upd s4 hD3,?_⟩
     rw [upd_same,take_snoc q1]; simp
    ·rintro σ' H3 ⟨v1,v2,rfl,s3,h3⟩
     rw [List.take_of_length_le (by omega)] at h3
     refine ⟨D3,_,rfl,SqL.of h3,(by show 3≤sizeLine; decide),fun u nu=>?_⟩
     have sx:(prs.map fun q=>(ptAt A q.1).1 * q.2).sum = sumX A prs:=by unfold sumX; congr 1; exact List.map_congr_left fun q _=>Int.mul_comm _ _
     have sy:(prs.map fun q=>(ptAt A q.1).2 * q.2).sum = sumY A prs:=by unfold sumY; congr 1; exact List.map_congr_left fun q _=>Int.mul_comm _ _
     have hu3:IsTri (upd H3 u (.tup [.int (prs.map fun q=>(ptAt A q.1).1 * q.2).sum,.int (prs.map fun q=>(ptAt A q.1).2 * q.2).sum,.int (prs.map (·.2)).sum])) (.ref u) (spotT A prs):=⟨u,rfl,by rw [upd_same,sx,sy]; rfl⟩
     have s4:=same_upd (o:=.tup [.int (prs.map fun q=>(ptAt A q.1).1 * q.2).sum,.int (prs.map fun q=>(ptAt A q.1).2 * q.2).sum,.int (prs.map (·.2)).sum]) (Same.refl H3) nu
     have gp:0 < gcd3 (spotT A prs):=gcd_pos pos
     have gl:gcd3 (spotT A prs) < 1073741824:=by
      have h1:=Int.le_of_dvd pos (gcd3_dvd (spotT A prs)).2.2
      omega
     have s14:=s12.trans (s3.trans s4)
     refine ⟨.ref u,spotT A prs,rfl,hu3,gp,Nat.lt_trans gl (by decide),fun r nr=>?_⟩
     exact k r _ (s14.free nr) (s14.trans (same_upd (Same.refl _) nr)) ⟨r,rfl,upd_same⟩
end
end Toy
set_option maxRecDepth 100000
namespace Toy
open PySem L2 Geo
def SpB (t:Tri):Prop:=-4611686018427387904≤t.1∧t.1≤4611686018427387904∧-4611686018427387904≤t.2.1∧t.2.1≤4611686018427387904∧-4611686018427387904≤t.2.2∧t.2.2≤64000000
theorem sum_bound {f:Pt→Int} {C:Int} (hC:0≤C):∀ {prs:List Pt},(∀ q ∈ prs,0≤q.2∧-C≤f q∧f q≤C)→(prs.map fun q=>q.2 * f q).sum≤C * (prs.map (·.2)).sum∧-(C * (prs.map (·.2)).sum)≤(prs.map fun q=>q.2 * f q).sum
 | [],_=>by simp
 | q :: r,h=>by
  obtain ⟨h1,h2,h3⟩:=h q (by simp)
  obtain ⟨i1,i2⟩:=sum_bound hC (prs:=r) fun p hp=>h p (by simp [hp])
  have a1:0≤q.2 * (C - f q):=Int.mul_nonneg h1 (by omega)
  have a2:0≤q.2 * (C+f q):=Int.mul_nonneg h1 (by omega)
  simp only [List.map_cons,List.sum_cons]
  constructor <;> grind
theorem spot_b {A prs:List Pt} (bA:∀ q ∈ A,Bd q) (ix:∀ q ∈ prs,0≤q.1∧q.1 < A.length∧0≤q.2) (pos:0 < (spotT A prs).2.2) (lt:(spotT A prs).2.2≤64000000):SpB (lowM (spotT A prs)):=by
 have bp:∀ q ∈ prs,Bd (ptAt A q.1):=fun q hq=>by
  obtain ⟨i1,i2,_⟩:=ix q hq
  have hk:q.1.toNat < A.length:=by omega
  refine bA _ ?_
  unfold ptAt; rw [List.getD_eq_getElem?_getD,List.getElem?_eq_getElem hk]; exact List.getElem_mem hk
 have hx:=sum_bound (f:=fun q=>(ptAt A q.1).1) (C:=1000) (by decide) (prs:=prs) fun q hq=>⟨(ix q hq).2.2,(bp q hq).1,(bp q hq).2.1⟩
 have hy:=sum_bound (f:=fun q=>(ptAt A q.1).2) (C:=1000) (by decide) (prs:=prs) fun q hq=>⟨(ix q hq).2.2,(bp q hq).2.2.1,(bp q hq).2.2.2⟩
 have hg:(0:Int) < (gcd3 (spotT A prs):Nat):=by have:=gcd_pos (a:=((Int.gcd (spotT A prs).1 (spotT A prs).2.1:Nat):Int)) pos; unfold gcd3; omega
 have b1:=abs_div_le (s:=(spotT A prs).1) hg
 have b2:=abs_div_le (s:=(spotT A prs).2.1) hg
 have b3:=abs_div_le (s:=(spotT A prs).2.2) hg
 have e1:(spotT A prs).1 = (prs.map fun q=>q.2 * (ptAt A q.1).1).sum:=rfl
 have e2:(spotT A prs).2.1 = (prs.map fun q=>q.2 * (ptAt A q.1).2).sum:=rfl
 have e3:(spotT A prs).2.2 = (prs.map (·.2)).sum:=rfl
 have f1:(lowM (spotT A prs)).1 = (spotT A prs).1 / (gcd3 (spotT A prs):Nat):=rfl
 have f2:(lowM (spotT A prs)).2.1 = (spotT A prs).2.1 / (gcd3 (spotT A prs):Nat):=rfl
 have f3:(lowM (spotT A prs)).2.2 = (spotT A prs).2.2 / (gcd3 (spotT A prs):Nat):=rfl
 unfold SpB
 rw [f1,f2,f3]
 omega
theorem ptAt_mem {A:List Pt} {n:Int} (h0:0≤n) (h1:n < A.length):ptAt A n ∈ A:=by
 have hk:n.toNat < A.length:=by omega
 unfold ptAt; rw [List.getD_eq_getElem?_getD,List.getElem?_eq_getElem hk]; exact List.getElem_mem hk
def IsShN (H:Hp) (v:V) (e:ShN):Prop:=∃ a c,v = .ref a∧H a = some (.tup [c,.int e.2])∧IsPt H c e.1.2
theorem IsShN.keep {H H':Hp} {v:V} {e:ShN} (h:IsShN H v e) (k:Keep H H'):IsShN H' v e:=by
 obtain ⟨a,c,h1,h2,h3⟩:=h
 exact ⟨a,c,h1,k _ _ h2,h3.keep k⟩
abbrev AreShN (H:Hp):List V→List ShN→Prop:=Paired (IsShN H)
section
variable {P:Program} {w:World} {K:PySem.W.Frag} {mg:Str→Option Value} {base:Heap}
def NoStep (K:PySem.W.Frag) (mg:Str→Option Value):Prop:=∃ (a:Addr) (o:Obj) (its:Array Value) (n:Nat),mg "NO_STEP" = some (.ref a)∧K.lookup a = some o∧o.cls = .type "tuple"∧o.data = .seq its n∧its.size≤sizeLine∧Vals [.int 0,.int 0] its.toList
abbrev n_sLS:List Str:=["ones","others","steps","ends","shutting","shares","one_shares","other_shares"]
def spLS (K:PySem.W.Frag):Sp:=fun vs H Q _=>∃ a xs A b ys B,vs = [.ref a,.ref b]∧SqL K H a xs∧ArePts H xs A∧SqL K H b ys∧ArePts H ys B∧(∀ q ∈ A,Bd q)∧(∀ q ∈ B,Bd q)∧A.length * B.length≤12∧A.length≤12∧B.length≤12 ∧
 (∀ r t l H',H r = none→Same H H'→H' r = some (.tup [.str "line",.ref t])→IsTri H' (.ref t) l→LineOk A B l→Q (.ref r) H') ∧
 (∀ r t w1 w2 l1 l2 tr1 tr2 sp H',H r = none→H w1 = none→H w2 = none→w1 ≠ w2→Same H H'→H' r = some (.tup [.str "spot",.ref t,.ref w1,.ref w2])→IsTri H' (.ref t) sp→H' w1 = some (.lst l1)→AreTri H' l1 tr1→H' w2 = some (.lst l2)→AreTri H' l2 tr2 →
  SpOk sp→SpB sp→WOk A tr1 sp→WOk B tr2 sp→InHullS A sp→InHullS B sp→Q (.ref r) H')
theorem scLS:FnScope n_sLS ["ones","others"] (defScope sLS):=⟨rfl,rfl,rfl,by decide +kernel,rfl,by decide +kernel,by decide +kernel⟩
abbrev c_lsS:Scope:={ kind:=.function,names:=[(".0",.local),("end",.local),("share",.local),("steps",.free)],isGenerator:=false,isCoroutine:=false }
theorem cs_lsS {cdv:Value} {A:Around} {outer:List Env} {s:Shared} {H:Hp} {E:XK} {f:Addr}:CompScope (cxOf CX0 P w K mg base n_sLS "line_or_spot" (defScope sLS) f cdv A outer s H E).nox c_lsS ["end","share","steps"] [none,none,some 2] where
 kind:=rfl
 nocell:=by decide +kernel
 names:=by decide +kernel
 frees:=by show ∀ z ∈ c_lsS.names,z.2 = .free→(defScope sLS).names.lookup z.1 = some .cell; decide +kernel
 nd:=by decide +kernel
 len:=rfl
 cap:=fun i j h=>match i,h with
  | 0,h=>by simp at h
  | 1,h=>by simp at h
  | 2,h=>by
   simp at h; subst h
   exact ⟨"steps",rfl,rfl,by decide +kernel,rfl,.inl rfl⟩
  | n+3,h=>by simp at h
theorem nd_lsS:(["end","share","steps"]:List Str).Nodup:=by decide +kernel
abbrev c_lsA:Scope:={ kind:=.function,names:=[(".0",.local),("numbers",.local),("share",.local)],isGenerator:=false,isCoroutine:=false }
theorem cs_lsA {cdv:Value} {A:Around} {outer:List Env} {s:Shared} {H:Hp} {E:XK} {f:Addr}:CompScope (cxOf CX0 P w K mg base n_sLS "line_or_spot" (defScope sLS) f cdv A outer s H E).nox c_lsA ["numbers","share"] [none,none] where
 kind:=rfl
 nocell:=by decide +kernel
 names:=by decide +kernel
 frees:=by show ∀ z ∈ c_lsA.names,z.2 = .free→(defScope sLS).names.lookup z.1 = some .cell; decide +kernel
 nd:=by decide +kernel
 len:=rfl
 cap:=fun i j h=>match i,h with
  | 0,h=>by simp at h
  | 1,h=>by simp at h
  | n+2,h=>by simp at h
theorem nd_lsA:(["numbers","share"]:List Str).Nodup:=by decide +kernel
abbrev c_lsB:Scope:={ kind:=.function,names:=[(".0",.local),("numbers",.local),("share",.local)],isGenerator:=false,isCoroutine:=false }
theorem cs_lsB {cdv:Value} {A:Around} {outer:List Env} {s:Shared} {H:Hp} {E:XK} {f:Addr}:CompScope (cxOf CX0 P w K mg base n_sLS "line_or_spot" (defScope sLS) f cdv A outer s H E).nox c_lsB ["numbers","share"] [none,none] where
 kind:=rfl
 nocell:=by decide +kernel
 names:=by decide +kernel
 frees:=by show ∀ z ∈ c_lsB.names,z.2 = .free→(defScope sLS).names.lookup z.1 = some .cell; decide +kernel
 nd:=by decide +kernel
 len:=rfl
 cap:=fun i j h=>match i,h with
  | 0,h=>by simp at h
  | 1,h=>by simp at h
  | n+2,h=>by simp at h
theorem nd_lsB:(["numbers","share"]:List Str).Nodup:=by decide +kernel
theorem ok_ls {f g1 g2 g3 g4 g5 g6 g7 g8 g9:Addr} {fd d1 d2 d3 d4 d5 d6 d7 d8 d9:FuncData} (F:Fun K "line_or_spot" "line_or_spot" sLS f fd) (T:Txt mg) (hN:NoStep K mg)
  (BE:FnOk P w K mg base CX0 1 g1 d1 ["ones"] (spBeside K)) (b1:Binds K d1 ["ones"] []) (k1:PySem.W.keepIn K (.ref g1) = true) (m1:mg "line_beside" = some (.ref g1))
  (ST:FnOk P w K mg base CX0 1 g2 d2 ["ones","others"] (spSteps K)) (b2:Binds K d2 ["ones","others"] []) (k2:PySem.W.keepIn K (.ref g2) = true) (m2:mg "steps_between" = some (.ref g2))
  (RN:FnOk P w K mg base CX0 3 g3 d3 ["points"] (spRnd K)) (b3:Binds K d3 ["points"] []) (k3:PySem.W.keepIn K (.ref g3) = true) (m3:mg "corners_round" = some (.ref g3))
  (SH:FnOk P w K mg base CX0 2 g4 d4 ["ends","point"] (spShut K)) (b4:Binds K d4 ["ends","point"] []) (k4:PySem.W.keepIn K (.ref g4) = true) (m4:mg "shutting_line" = some (.ref g4))
  (LB:FnOk P w K mg base CX0 2 g5 d5 ["ones","others","shutting"] (spLBetween K)) (b5:Binds K d5 ["ones","others","shutting"] []) (k5:PySem.W.keepIn K (.ref g5) = true) (m5:mg "line_between" = some (.ref g5))
  (NW:FnOk P w K mg base CX0 3 g6 d6 ["ends","point"] (spShares K)) (b6:Binds K d6 ["ends","point"] []) (k6:PySem.W.keepIn K (.ref g6) = true) (m6:mg "shares_within" = some (.ref g6))
  (AD:FnOk P w K mg base CX0 1 g7 d7 ["shares"] (spAdded K)) (b7:Binds K d7 ["shares"] []) (k7:PySem.W.keepIn K (.ref g7) = true) (m7:mg "added_up" = some (.ref g7))
  (WS:FnOk P w K mg base CX0 3 g8 d8 ["points","shares"] (spWSpot K)) (b8:Binds K d8 ["points","shares"] []) (k8:PySem.W.keepIn K (.ref g8) = true) (m8:mg "weighed_spot" = some (.ref g8))
  (WG:FnOk P w K mg base CX0 2 g9 d9 ["shares"] (spWeigh K)) (b9:Binds K d9 ["shares"] []) (k9:PySem.W.keepIn K (.ref g9) = true) (m9:mg "weighing" = some (.ref g9)) :
  FnOk P w K mg base CX0 4 f fd ["ones","others"] (spLS K):=by
 refine F.ok scLS (fun vs H Q E h=>?_) (fun cdv A' outer s H vs Q E hr h=>?_)
 ·obtain ⟨a,xs,A,b,ys,B,rfl,_⟩:=h; rfl
 ·obtain ⟨a,xs,A,b,ys,B,rfl,ha,hx,hb,hy,bA,bB,lAB,lA,lB,kL,kS⟩:=h
  have hu:=hu_of hr
  have lx:=hx.length
  have ly:=hy.length
  have hr1:Room 1 _:=hr.mono (by decide)
  have hr2:Room 2 _:=hr.mono (by decide)
  obtain ⟨aN,oN,iN,nN,mN,q1,q2,q3,q4,q5⟩:=hN
  have z0:∀ H':Hp,IsPtK K H' (.ref aN) (0,0):=fun H'=>⟨aN,rfl,.inr ⟨oN,iN,nN,q1,q2,q3,q4,q5⟩⟩
  refine ⟨_,pss_cons (ps_if (PW.pt (pw_or (pt_cmpR op_eq (pe_callB call_len_seq rfl T.len PySem.boot_len (pa_cons (pv 0) pa_nil)) pe_int (nomark _)) (pw_or1 (pt_cmpR op_eq (pe_callB call_len_seq rfl T.len PySem.boot_len (pa_cons (pv 1) pa_nil)) pe_int (nomark _)))))
    (pss_one (ps_ret (pe_tup (pa_cons pe_str (pa_cons (pe_call BE hr1 rfl m1 k1 b1 .nil pass0 (pa_cons (pv 0) pa_nil)) pa_nil))))) pss_nil)
   (pss_cons (ps_set (i:=2) scLS.nd rfl (Or.inr rfl) (pe_call ST hr1 rfl m2 k2 b2 .nil pass0 (pa_cons (pv 0) (pa_cons (pv 1) pa_nil))))
   (pss_cons (ps_set (i:=3) scLS.nd rfl (Or.inl rfl) (pe_call RN hr rfl m3 k3 b3 .nil pass0 (pa_cons (pe_callTy (call_list_dT hr.hd) rfl T.list PyProof.Rows.boot_list (pa_cons (pv 2) pa_nil)) pa_nil)))
   (pss_cons (ps_set (i:=4) scLS.nd rfl (Or.inl rfl) (pe_call SH hr2 rfl m4 k4 b4 .nil pass0 (pa_cons (pv 3) (pa_cons (pe_glob (v:=.ref aN) rfl mN rfl) pa_nil))))
   (pss_cons (ps_if (pt_cmp (pc_notN (pv 4))) (pss_one (ps_ret (pe_tup (pa_cons pe_str (pa_cons (pe_call LB hr2 rfl m5 k5 b5 .nil pass0 (pa_cons (pv 0) (pa_cons (pv 1) (pa_cons (pv 4) pa_nil)))) pa_nil))))) pss_nil)
   (pss_cons (ps_setC (i:=5) scLS.nd rfl rfl cs_lsS rfl (pi_list (pe_call NW hr rfl m6 k6 b6 .nil pass0 (pa_cons (pv 3) (pa_cons (pe_glob (v:=.ref aN) rfl mN rfl) pa_nil))))
    (fun _ _ _ _ _=>pgt (K':=K) rfl (pg_tup (n:=2) rfl (pgs_cons (pg_name (i:=0) nd_lsS rfl (Or.inl rfl)) (pgs_cons (pg_name (i:=1) nd_lsS rfl (Or.inl rfl)) pgs_nil)))) (fun _ _ _ _ _=>pif_nil)
    (fun _ _ _ _ _=>pe_tup (pa_cons (pe_dget hu (pv 2) (pv 0) (fun _ _=>rfl)) (pa_cons (pv 1) pa_nil))) rfl)
   (pss_cons (ps_set (i:=6) scLS.nd rfl (Or.inl rfl) (pe_call AD hr1 rfl m7 k7 b7 .nil pass0 (pa_cons (pe_comp cs_lsA rfl (pi_list (pv 5))
    (fun _ _ _ _ _=>pgt (K':=K) rfl (pg_tup (n:=2) rfl (pgs_cons (pg_name (i:=0) nd_lsA rfl (Or.inl rfl)) (pgs_cons (pg_name (i:=1) nd_lsA rfl (Or.inl rfl)) pgs_nil)))) (fun _ _ _ _ _=>pif_nil)
    (fun _ _ _ _ _=>pe_tup (pa_cons (pe_ix (ixt (K':=K) rfl) (pv 0) pe_int (fun _ _=>rfl)) (pa_cons (pv 1) pa_nil)))) pa_nil)))
   (pss_cons (ps_set (i:=7) scLS.nd rfl (Or.inl rfl) (pe_call AD hr1 rfl m7 k7 b7 .nil pass0 (pa_cons (pe_comp cs_lsB rfl (pi_list (pv 5))
    (fun _ _ _ _ _=>pgt (K':=K) rfl (pg_tup (n:=2) rfl (pgs_cons (pg_name (i:=0) nd_lsB rfl (Or.inl rfl)) (pgs_cons (pg_name (i:=1) nd_lsB rfl (Or.inl rfl)) pgs_nil)))) (fun _ _ _ _ _=>pif_nil)
    (fun _ _ _ _ _=>pe_tup (pa_cons (pe_ix (ixt (K':=K) rfl) (pv 0) pe_int (fun _ _=>rfl)) (pa_cons (pv 1) pa_nil)))) pa_nil)))
   (pss_one (ps_ret (pe_tup (pa_cons pe_str (pa_cons (pe_call WS hr rfl m8 k8 b8 .nil pass0 (pa_cons (pv 0) (pa_cons (pv 6) pa_nil))) (pa_cons (pe_call WG hr2 rfl m9 k9 b9 .nil pass0 (pa_cons (pv 6) pa_nil)) (pa_cons (pe_call WG hr2 rfl m9 k9 b9 .nil pass0 (pa_cons (pv 7) pa_nil)) pa_nil)))))))))))))),?_⟩
  have hp2:∀ {p q:Pt},Bd p→Bd q→Bd2 (subP p q):=fun {p q} h1 h2=>by unfold Bd at h1 h2; unfold Bd2 subP; dsimp only; omega
  refine ⟨_,rfl,a,_,rfl,.inl ha,rfl,_,rfl,?_⟩
  by_cases hA0:A = []
  ·have l0:xs.length = 0:=by rw [lx,hA0]; rfl
   rw [show (decide (V.int (xs.length:Int) = V.int 0)) = true by rw [l0]; rfl]
   refine iteT ?_
   refine ⟨_,rfl,a,xs,A,B,rfl,ha,hx,bA,bB,.inl hA0,fun t l H1 s1 it lo=>?_⟩
   refine ⟨(by show 2≤sizeLine; decide),fun r nr=>?_⟩
   have s2:=same_upd (o:=.tup [.str "line",.ref t]) (Same.refl H1) nr
   exact kL r t l _ (s1.free nr) (s1.trans s2) upd_same (it.same s2) lo
  have lA0:0 < A.length:=List.length_pos_iff.mpr hA0
  rw [decide_eq_false (show ¬ V.int (xs.length:Int) = V.int 0 from fun e=>by have:=V.int.inj e; omega)]
  refine iteF ?_
  refine ⟨_,rfl,b,_,rfl,.inl hb,rfl,_,rfl,?_⟩
  by_cases hB0:B = []
  ·have l0:ys.length = 0:=by rw [ly,hB0]; rfl
   rw [show (decide (V.int (ys.length:Int) = V.int 0)) = true by rw [l0]; rfl]
   refine iteT ?_
   refine ⟨_,rfl,a,xs,A,B,rfl,ha,hx,bA,bB,.inr hB0,fun t l H1 s1 it lo=>?_⟩
   refine ⟨(by show 2≤sizeLine; decide),fun r nr=>?_⟩
   have s2:=same_upd (o:=.tup [.str "line",.ref t]) (Same.refl H1) nr
   exact kL r t l _ (s1.free nr) (s1.trans s2) upd_same (it.same s2) lo
  have lB0:0 < B.length:=List.length_pos_iff.mpr hB0
  rw [decide_eq_false (show ¬ V.int (ys.length:Int) = V.int 0 from fun e=>by have:=V.int.inj e; omega)]
  refine iteF ?_
  refine ⟨_,rfl,_,rfl,a,xs,A,b,ys,B,rfl,ha,hx,hb,hy,by omega,fun d kvs es H1 n1 s1 h1 st ok cov le=>?_⟩
  refine ⟨_,rfl,d,kvs,rfl,h1,fun l zs nl pz=>?_⟩
  have s1l:=same_upd (o:=.lst zs) (Same.refl H1) nl
  have pzs:ArePts (upd H1 l (.lst zs)) zs (es.map (·.1)):=by
   have e1:=pz.length
   have e2:=st.length
   refine Paired.of_map (by rw [List.length_map]; omega) fun i z q g1 g2=>?_
   obtain ⟨kv,k1,u,rfl,hu1⟩:=Pair.get pz g1
   obtain ⟨e,e3,e4⟩:=Pair.get st k1
   rw [List.getElem?_map,e3] at g2
   obtain rfl:e.1 = q:=by simpa using g2
   rw [e4.1] at hu1
   exact ⟨u,rfl,s1l _ _ hu1⟩
  have bE:∀ p ∈ es.map (·.1),Bd2 p:=fun p hp=>by
   obtain ⟨e,he,rfl⟩:=List.mem_map.mp hp
   obtain ⟨i1,i2,i3,i4,i5⟩:=ok.ix e he
   rw [i5]
   exact hp2 (bA _ (ptAt_mem i1 i2)) (bB _ (ptAt_mem i3 i4))
  refine ⟨l,zs,es.map (·.1),rfl,SqL.of upd_same,pzs,by rw [List.length_map]; omega,bE,fun r2 z2 H2 n2 s2 h2 p2=>?_⟩
  have s12:=s1.trans (s1l.trans s2)
  have lc:(cornersM (es.map (·.1))).length≤200:=by
   have h:=uniqP_le (es.map (·.1))
   have e1:=sideOf_len (uniqP (es.map (·.1)))
   have e2:=sideOf_len (uniqP (es.map (·.1))).reverse
   rw [List.length_reverse] at e2
   rw [List.length_map] at h
   unfold cornersM hullR
   split
   ·omega
   ·rw [List.length_append,List.length_dropLast,List.length_dropLast]; omega
  have hd2:=s2 _ _ (s1l _ _ h1)
  have st2:AreSteps H2 kvs es:=AreSteps.keep st (Same.keep (s1l.trans s2))
  refine ⟨_,rfl,r2,z2,cornersM (es.map (·.1)),.ref aN,(0,0),rfl,SqL.of h2,p2,lc,fun q hq=>bE q (cornersM_sub bE q hq),z0 H2,(by unfold Bd2; decide),fun t l3 H3 s3 ht ho=>?_,fun H3 s3 no=>?_⟩
  ·refine ⟨_,rfl,true,(by show V.bl (!decide (V.ref t = V.non)) = V.bl true; rw [decide_eq_false (by intro e; cases e)]; rfl),iteT ?_⟩
   have s13:=s12.trans s3
   refine ⟨_,rfl,_,rfl,_,rfl,a,xs,A,b,ys,B,.ref t,l3,es.map (·.1),rfl,s13.seq ha,hx.same s13,s13.seq hb,hy.same s13,hA0,hB0,by omega,by omega,bA,bB,ht,cov,ho.corners bE,fun t4 l4 H4 s4 it4 lo=>?_⟩
   refine ⟨(by show 2≤sizeLine; decide),fun r nr=>?_⟩
   have s5:=same_upd (o:=.tup [.str "line",.ref t4]) (Same.refl H4) nr
   exact kL r t4 l4 _ ((s13.trans s4).free nr) ((s13.trans s4).trans s5) upd_same (it4.same s5) lo
  ·refine ⟨_,rfl,false,(by show V.bl (!decide (V.non = V.non)) = V.bl false; rw [decide_eq_true rfl]; rfl),iteF ?_⟩
   have s13:=s12.trans s3
   refine ⟨_,rfl,r2,z2,es.map (·.1),.ref aN,(0,0),rfl,s3.seq (SqL.of h2),p2.same s3,lc,bE,z0 H3,(by unfold Bd2; decide),no,fun r4 z4 sh H4 n4 s4 h4 w4 oks=>?_⟩
   have s14:=s13.trans s4
   have lsh:=w4.length
   have lok:=oks.len
   have hd4:=s4 _ _ (s3 _ _ hd2)
   have st4:AreSteps H4 kvs es:=AreSteps.keep st2 (Same.keep (s3.trans s4))
   refine ⟨r4,rfl,⟨_,SqL.of h4⟩,fun D hD=>?_⟩
   have sD:Same H4 (upd H4 D (.lst [])):=same_upd (Same.refl H4) hD
   refine comp_list (K:=K) (a:=r4) (xs:=z4) (fun j σ' H'=>∃ v1 v2 us shn,σ' = [v1,v2,some (.ref d)]∧Same H4 H'∧H' D = some (.lst us)∧AreShN H' us shn∧shn.map (fun e=>(e.1.1,e.2)) = sh.take j∧∀ e ∈ shn,e.1 ∈ es)
    ⟨none,none,[],[],rfl,sD,upd_same,.nil,rfl,by simp⟩ (fun j σ' H' _ ⟨_,_,_,_,_,s5,_⟩=>s5.seq (SqL.of h4)) ?_ ?_
   ·rintro j x σ' H' hj ⟨v1,v2,us,shn,rfl,s5,h5,w5,m5,i5⟩
    obtain ⟨e,e1,e2⟩:=Pair.get w4 hj
    have hjl:=(List.getElem?_eq_some_iff.mp hj).1
    have lw:=w5.length
    have lm:shn.length = min j sh.length:=by rw [← List.length_take,← m5,List.length_map]
    obtain ⟨t,c,rfl,ht,uc,rfl,hc⟩:=e2
    have me:e.1 ∈ es.map (·.1):=cornersM_sub bE _ (oks.mem e (List.mem_of_getElem? e1))
    obtain ⟨g,hg,eg⟩:=List.mem_map.mp me
    have mg':(e.1,g.2) ∈ es:=by rw [← eg]; exact hg
    obtain ⟨v,v1',v2'⟩:=steps_val (st4.keep (Same.keep s5)) ok.nd mg'
    refine ⟨t,_,rfl,SqT.of (s5 _ _ ht),rfl,_,_,rfl,_,_,rfl,rfl,?_⟩
    dsimp only [tYes]
    refine iteT ⟨_,rfl,_,rfl,d,v,rfl,v1' ▸ DGet.t (k:=kpt e.1) (s5 _ _ hd4) (s5 _ _ hc),_,rfl,(by show 2≤sizeLine; decide),fun u nu=>?_⟩
    have s6:=same_upd (o:=.tup [v,.int e.2]) (Same.refl H') nu
    have hDD:=s6 _ _ h5
    refine ⟨us,hDD,small1000 (by omega),_,_,_,shn++[((e.1,g.2),e.2)],rfl,same_upd (s5.trans s6) hD,upd_same,?_,?_,?_⟩
    ·have kp:Keep H' (upd (upd H' u (.tup [v,.int e.2])) D (.lst (us++[.ref u]))):=(Same.keep s6).trans (Keep.lst hDD _)
     refine Pair.append (Paired.mapP w5 fun _ _ z=>IsShN.keep z kp) (.cons ⟨u,v,rfl,?_,v2'.keep kp⟩ .nil)
     have:u ≠ D:=fun e=>by subst e; rw [h5] at nu; cases nu
     rw [upd_ne this,upd_same]
    ·rw [List.map_append,m5,take_snoc e1]; rfl
    ·intro e' he'
     rcases List.mem_append.mp he' with z | z
     ·exact i5 e' z
     ·rw [List.mem_singleton] at z; rw [z]; exact mg'
   ·rintro σ' H5 ⟨v1,v2,us,shn,rfl,s5,h5,w5,m5,i5⟩
    rw [List.take_of_length_le (by omega)] at m5
    have lw:=w5.length
    have lm:shn.length = sh.length:=by rw [← m5,List.length_map]
    have s15:=s14.trans s5
    have oks':ShOk (cornersM (es.map (·.1))) (0,0) (shn.map fun e=>(e.1.1,e.2)):=by rw [m5]; exact oks
    have shnOk:ShnOk A B shn:=⟨fun e he=>ok.ix e.1 (i5 e he)⟩
    refine ⟨_,rfl,D,rfl,⟨_,SqL.of h5⟩,fun D1 hD1=>?_⟩
    refine comp_list (K:=K) (a:=D) (xs:=us) (fun j σ' H'=>∃ v1 v2 ws,σ' = [v1,v2]∧Same H5 H'∧H' D1 = some (.lst ws)∧ArePts H' ws ((ones shn).take j))
     ⟨none,none,[],rfl,same_upd (Same.refl H5) hD1,upd_same,.nil⟩ (fun j σ' H' _ ⟨_,_,_,_,s6,_⟩=>s6.seq (SqL.of h5)) ?_ ?_
    ·rintro j x σ' H' hj ⟨v1,v2,ws,rfl,s6,h6,w6⟩
     obtain ⟨e,e1,e2⟩:=Pair.get w5 hj
     have hjl:=(List.getElem?_eq_some_iff.mp hj).1
     have lww:=w6.length
     rw [List.length_take] at lww
     obtain ⟨t,c,rfl,ht,uc,rfl,hc⟩:=e2
     refine ⟨t,_,rfl,SqT.of (s6 _ _ ht),rfl,_,_,rfl,_,_,rfl,rfl,?_⟩
     dsimp only [tYes]
     refine iteT ⟨_,rfl,uc,_,_,_,rfl,rfl,SqT.of (s6 _ _ hc),atI_nat (j:=0) rfl,_,rfl,(by show 2≤sizeLine; decide),fun u nu=>?_⟩
     have s7:=same_upd (o:=.tup [.int e.1.2.1,.int e.2]) (Same.refl H') nu
     have hDD:=s7 _ _ h6
     refine ⟨ws,hDD,small1000 (by omega),_,_,_,rfl,same_upd (s6.trans s7) hD1,upd_same,?_⟩
     rw [take_snoc (show (ones shn)[j]? = some (e.1.2.1,e.2) by unfold ones; rw [List.getElem?_map,e1]; rfl)]
     refine Pair.append (ArePts.keep w6 ((Same.keep s7).trans (Keep.lst hDD _))) (.cons ⟨u,rfl,?_⟩ .nil)
     have:u ≠ D1:=fun e=>by subst e; rw [h6] at nu; cases nu
     rw [upd_ne this,upd_same]
    ·rintro σ' H6 ⟨v1,v2,ws,rfl,s6,h6,w6⟩
     have l1:(ones shn).length = shn.length:=by unfold ones; rw [List.length_map]
     rw [List.take_of_length_le (by omega)] at w6
     refine ⟨D1,ws,ones shn,rfl,SqL.of h6,w6,by omega,fun r7 w7 o1 H7 n7 s7 h7 p7 a1=>?_⟩
     have s57:=s6.trans s7
     have h57:=s57 _ _ h5
     have w57:AreShN H7 us shn:=Paired.mapP w5 fun _ _ z=>IsShN.keep z (Same.keep s57)
     refine ⟨_,rfl,D,rfl,⟨_,SqL.of h57⟩,fun D2 hD2=>?_⟩
     refine comp_list (K:=K) (a:=D) (xs:=us) (fun j σ' H'=>∃ v1 v2 ws,σ' = [v1,v2]∧Same H7 H'∧H' D2 = some (.lst ws)∧ArePts H' ws ((othrs shn).take j))
      ⟨none,none,[],rfl,same_upd (Same.refl H7) hD2,upd_same,.nil⟩ (fun j σ' H' _ ⟨_,_,_,_,s8,_⟩=>s8.seq (SqL.of h57)) ?_ ?_
     ·rintro j x σ' H' hj ⟨v1,v2,ws,rfl,s8,h8,w8⟩
      obtain ⟨e,e1,e2⟩:=Pair.get w57 hj
      have hjl:=(List.getElem?_eq_some_iff.mp hj).1
      have lww:=w8.length
      rw [List.length_take] at lww
      obtain ⟨t,c,rfl,ht,uc,rfl,hc⟩:=e2
      refine ⟨t,_,rfl,SqT.of (s8 _ _ ht),rfl,_,_,rfl,_,_,rfl,rfl,?_⟩
      dsimp only [tYes]
      refine iteT ⟨_,rfl,uc,_,_,_,rfl,rfl,SqT.of (s8 _ _ hc),atI_nat (j:=1) rfl,_,rfl,(by show 2≤sizeLine; decide),fun u nu=>?_⟩
      have s9:=same_upd (o:=.tup [.int e.1.2.2,.int e.2]) (Same.refl H') nu
      have hDD:=s9 _ _ h8
      refine ⟨ws,hDD,small1000 (by omega),_,_,_,rfl,same_upd (s8.trans s9) hD2,upd_same,?_⟩
      rw [take_snoc (show (othrs shn)[j]? = some (e.1.2.2,e.2) by unfold othrs; rw [List.getElem?_map,e1]; rfl)]
      refine Pair.append (ArePts.keep w8 ((Same.keep s9).trans (Keep.lst hDD _))) (.cons ⟨u,rfl,?_⟩ .nil)
      have:u ≠ D2:=fun e=>by subst e; rw [h8] at nu; cases nu
      rw [upd_ne this,upd_same]
     ·rintro σ' H8 ⟨v1,v2,ws2,rfl,s8,h8,w8⟩
      have l2:(othrs shn).length = shn.length:=by unfold othrs; rw [List.length_map]
      rw [List.take_of_length_le (by omega)] at w8
      refine ⟨D2,ws2,othrs shn,rfl,SqL.of h8,w8,by omega,fun r9 w9 o2 H9 n9 s9 h9 p9 a2=>?_⟩
      obtain ⟨pos,lt,po1,po2⟩:=spot_ok oks' shnOk a1 a2
      have po1':PrOk A o1 (lowM (spotT A o1)):=po1
      have po2':PrOk B o2 (lowM (spotT A o1)):=po2
      have pos':0 < (spotT A o1).2.2:=pos
      have lt':(spotT A o1).2.2≤64000000:=lt
      have s79:=s8.trans s9
      have s19:=s15.trans (s57.trans s79)
      have len1:=po1'.len
      have len2:=po2'.len
      refine ⟨_,rfl,_,rfl,a,xs,A,r7,w7,o1,rfl,s19.seq ha,hx.same s19,bA,SqL.of (s79 _ _ h7),p7.same s79,by omega,fun q hq=>⟨(po1'.ix q hq).1,(po1'.ix q hq).2,po1'.nn q hq⟩,pos',lt',fun r10 H10 n10 s10 t10=>?_⟩
      have sp:=lowM_ok pos'
      have s710:=s79.trans s10
      refine ⟨_,rfl,r7,w7,o1,rfl,SqL.of (s710 _ _ h7),p7.same s710,by omega,po1'.nn,po1'.pos,po1'.lt,fun r11 w11 H11 n11 s11 h11 t11=>?_⟩
      have s911:=s10.trans s11
      refine ⟨_,rfl,r9,w9,o2,rfl,SqL.of (s911 _ _ h9),p9.same s911,by omega,po2'.nn,po2'.pos,po2'.lt,fun r12 w12 H12 n12 s12' h12 t12=>?_⟩
      refine ⟨(by show 4≤sizeLine; decide),fun r nr=>?_⟩
      have sN:=same_upd (o:=.tup [.str "spot",.ref r10,.ref r11,.ref r12]) (Same.refl H12) nr
      have s112:=s19.trans (s911.trans s12')
      have s12N:=s12'.trans sN
      refine kS r r10 r11 r12 w11 w12 _ _ (lowM (spotT A o1)) _ (s112.free nr) ((s19.trans s10).free n11) ((s19.trans s911).free n12) ?_ (s112.trans sN) upd_same (t10.same (s11.trans s12N)) (s12N _ _ h11) (t11.same s12N) (sN _ _ h12) (t12.same sN) sp ?_ (weigh_ok po1') (weigh_ok po2') (po1'.hull sp.pos) (po2'.hull sp.pos)
      ·intro e; rw [e] at h11; rw [h11] at n12; cases n12
      ·exact spot_b bA (fun q hq=>⟨(po1'.ix q hq).1,(po1'.ix q hq).2,po1'.nn q hq⟩) pos' lt'
end
end Toy
set_option maxRecDepth 100000
namespace Toy
open PySem L2 Geo
def Meet (A B:List Pt):Prop:=∃ t:Tri,0 < t.2.2∧InHullS A t∧InHullS B t
theorem Meet.symm {A B:List Pt} (h:Meet A B):Meet B A:=by obtain ⟨t,h0,h1,h2⟩:=h; exact ⟨t,h0,h2,h1⟩
theorem line_not_meet {A B:List Pt} {l:Ln} (h:LineOk A B l):¬ Meet A B:=fun ⟨t,h0,h1,h2⟩=>by
 have a:=h1 (l.1,l.2.1,l.2.2 - 1) fun q hq=>by have:=h.pos q hq; unfold wrt at *; dsimp only at *; omega
 have b:=h2 (-l.1,-l.2.1,-l.2.2 - 1) fun q hq=>by have:=h.neg q hq; unfold wrt at *; dsimp only at *; grind
 unfold wS at a b; dsimp only at a b
 grind
section
variable {P:Program} {w:World} {K:PySem.W.Frag} {mg:Str→Option Value} {base:Heap}
theorem scParted:FnScope ["ones","others"] ["ones","others"] (defScope sParted):=⟨rfl,rfl,rfl,by decide +kernel,rfl,by decide +kernel,by decide +kernel⟩
theorem ok_parted {f g1 g2:Addr} {fd d1 d2:FuncData} (F:Fun K "parted" "parted" sParted f fd)
  (C:FnOk P w K mg base CX0 2 g1 d1 ["points"] (spChks K)) (b1:Binds K d1 ["points"] []) (k1:PySem.W.keepIn K (.ref g1) = true) (m1:mg "check_points" = some (.ref g1))
  (S:FnOk P w K mg base CX0 4 g2 d2 ["ones","others"] (spLS K)) (b2:Binds K d2 ["ones","others"] []) (k2:PySem.W.keepIn K (.ref g2) = true) (m2:mg "line_or_spot" = some (.ref g2)) :
  FnOk P w K mg base CX0 5 f fd ["ones","others"] (spLS K):=by
 refine F.ok scParted (fun vs H Q E h=>?_) (fun cdv A' outer s H vs Q E hr h=>?_)
 ·obtain ⟨a,xs,A,b,ys,B,rfl,_⟩:=h; rfl
 ·obtain ⟨a,xs,A,b,ys,B,rfl,ha,hx,hb,hy,bA,bB,lAB,lA,lB,kL,kS⟩:=h
  have hr2:Room 2 _:=hr.mono (by decide)
  refine ⟨_,pss_cons (ps_expr (pe_call C hr2 rfl m1 k1 b1 .nil pass0 (pa_cons (pv 0) pa_nil)))
   (pss_cons (ps_expr (pe_call C hr2 rfl m1 k1 b1 .nil pass0 (pa_cons (pv 1) pa_nil)))
   (pss_one (ps_ret (pe_call S hr rfl m2 k2 b2 .nil pass0 (pa_cons (pv 0) (pa_cons (pv 1) pa_nil)))))),?_⟩
  refine ⟨_,rfl,a,xs,A,rfl,ha,hx,lA,bA,?_⟩
  refine ⟨_,rfl,b,ys,B,rfl,hb,hy,lB,bB,?_⟩
  exact ⟨_,rfl,_,rfl,a,xs,A,b,ys,B,rfl,ha,hx,hb,hy,bA,bB,lAB,lA,lB,kL,kS⟩
def wp (b:Bool):Str:=if b then "spot" else "line"
def spMeet (K:PySem.W.Frag):Sp:=fun vs H Q _=>∃ a xs A b ys B,vs = [.ref a,.ref b]∧SqL K H a xs∧ArePts H xs A∧SqL K H b ys∧ArePts H ys B∧(∀ q ∈ A,Bd q)∧(∀ q ∈ B,Bd q)∧A.length * B.length≤12∧A.length≤12∧B.length≤12 ∧
 ∀ (c:Bool) r rest H',H r = none→Same H H'→H' r = some (.tup (.str (wp c) :: rest))→(c = true↔Meet A B)→Q (.ref r) H'
theorem parted_word {f:Addr} {fd:FuncData} {k:Nat} (h:FnOk P w K mg base CX0 k f fd ["ones","others"] (spLS K)):FnOk P w K mg base CX0 k f fd ["ones","others"] (spMeet K) :=
 FnOk.weak h fun vs H Q E ⟨a,xs,A,b,ys,B,e,ha,hx,hb,hy,bA,bB,lAB,lA,lB,k⟩=>⟨a,xs,A,b,ys,B,e,ha,hx,hb,hy,bA,bB,lAB,lA,lB,
  fun r t l H' n s h _ lo=>k false r [.ref t] H' n s h ⟨fun e=>(by cases e),fun e=>absurd e (line_not_meet lo)⟩,
  fun r t w1 w2 l1 l2 tr1 tr2 sp H' n _ _ _ s h _ _ _ _ _ ok _ _ _ i1 i2=>k true r [.ref t,.ref w1,.ref w2] H' n s h ⟨fun _=>⟨sp,ok.pos,i1,i2⟩,fun _=>rfl⟩⟩
end
end Toy
set_option maxRecDepth 100000
namespace Geo
open PySem PySem.Builtin PySem.Builtin.Str PySem.StrLaws
def jn (c:Nat):List (List Nat)→List Nat
 | []=>[]
 | [x]=>x
 | x :: y :: r=>x++c :: jn c (y :: r)
theorem join_jn (c:Nat):∀ ws:List Str,(Str.join ⟨#[c]⟩ ws).cps.toList = jn c (ws.map (·.cps.toList))
 | []=>rfl
 | [x]=>rfl
 | x :: y :: r=>by
  have:=join_jn c (y :: r)
  show (x++⟨#[c]⟩++Str.join ⟨#[c]⟩ (y :: r)).cps.toList = x.cps.toList++c :: jn c ((y :: r).map (·.cps.toList))
  rw [← this,PySem.W.KT.app_list,PySem.W.KT.app_list]
  simp
theorem str_eq {a b:Str} (h:a.cps.toList = b.cps.toList):a = b:=by
 cases a; cases b
 simp only [Str.mk.injEq]
 exact Array.toList_inj.mp h
def digs (n:Nat):List Nat:=(Nat.toDigits 10 n).map Char.toNat
def decL (i:Int):List Nat:=if i < 0 then 45 :: digs i.natAbs else digs i.natAbs
def dec (i:Int):Str:=Str.ofString (toString i)
theorem dec_list (i:Int):(dec i).cps.toList = decL i:=by
 unfold dec decL digs
 cases i with
 | ofNat m =>
  rw [if_neg (by simp)]
  exact PySem.W.KIN.signs_num m
 | negSucc m =>
  rw [if_pos (Int.negSucc_lt_zero m),PyProof.Rows.signs_ofString]
  show ("-"++Nat.repr (m+1)).toList.map Char.toNat = _
  rw [String.toList_append,List.map_append,Nat.toList_repr]
  rfl
def isD (c:Nat):Bool:=decide (48≤c) && decide (c≤57)
def good (i:Int):Bool:=decide (PySem.intText? ⟨(decL i).toArray⟩ = some i) && decide ((decL i).length≤5) && !(digs i.natAbs).isEmpty && (digs i.natAbs).all isD && decide (i.natAbs.log2 < 1920)
set_option maxHeartbeats 0 in
theorem all_good:(List.range 2001).all (fun n=>good ((n:Int) - 1000)) = true:=by decide +kernel
structure Dec (i:Int):Prop where
 reads:PySem.intText? (dec i) = some i
 len:(dec i).length≤5
 ne:digs i.natAbs ≠ []
 digs:∀ c ∈ digs i.natAbs,48≤c∧c≤57
 log:i.natAbs.log2 < 1920
theorem dec_ok {i:Int} (h1:-1000≤i) (h2:i≤1000):Dec i:=by
 have h:=List.all_eq_true.mp all_good (i+1000).toNat (List.mem_range.mpr (by omega))
 rw [show (((i+1000).toNat:Nat):Int) - 1000 = i by omega] at h
 unfold good at h
 simp only [Bool.and_eq_true,decide_eq_true_eq] at h
 obtain ⟨⟨⟨⟨a,b⟩,c⟩,d⟩,e⟩:=h
 have e1:(⟨(decL i).toArray⟩:Str) = dec i:=str_eq (by rw [dec_list])
 rw [e1] at a
 refine ⟨a,?_,fun z=>by rw [z] at c; simp at c,fun x hx=>?_,e⟩
 ·unfold Str.length; rw [← Array.length_toList,dec_list]; exact b
 ·have:=List.all_eq_true.mp d x hx
  unfold isD at this
  simpa using this
def wordOf (p:Int×Int):Str:=Str.join ⟨#[44]⟩ [dec p.1,dec p.2]
theorem word_app (p:Int×Int):dec p.1++(⟨#[44]⟩:Str)++dec p.2 = wordOf p:=rfl
theorem word_len {p:Int×Int} (h1:Dec p.1) (h2:Dec p.2):(wordOf p).length≤11:=by
 have a:=h1.len
 have b:=h2.len
 unfold Str.length at *
 rw [← Array.length_toList,show (wordOf p).cps.toList = _ from join_jn 44 _]
 simp only [List.map_cons,List.map_nil,jn,List.length_append,List.length_cons,Array.length_toList]
 omega
theorem comma_sign:(Str.ofString ",":Str) = ⟨#[44]⟩:=by decide +kernel
theorem blank_sign:(Str.ofString " ":Str) = ⟨#[32]⟩:=by decide +kernel
def body (i:Int):Str:=if i < 0 then Txt.slice (dec i) (some 1) none else dec i
def textOf (ps:List (Int×Int)):Str:=Str.join ⟨#[32]⟩ (ps.map wordOf)
theorem text_join (ps:List (Int×Int)):Txt.join ⟨#[32]⟩ (ps.map wordOf) = textOf ps:=glued_eq_join _ _
theorem word_sum {ps:List (Int×Int)} (h:∀ p ∈ ps,Dec p.1∧Dec p.2):((ps.map wordOf).map (·.length)).sum≤11 * ps.length:=by
 induction ps with
 | nil=>simp
 | cons p r ih =>
  have:=ih fun q hq=>h q (List.mem_cons_of_mem _ hq)
  have:=word_len (h p (List.mem_cons_self ..)).1 (h p (List.mem_cons_self ..)).2
  simp only [List.map_cons,List.sum_cons,List.length_cons] at *
  omega
theorem text_ok {ps:List (Int×Int)} (h:∀ p ∈ ps,Dec p.1∧Dec p.2) (l:ps.length≤12):JoinOk ⟨#[32]⟩ (ps.map wordOf) = true∧(textOf ps).length≤200:=by
 have w:=word_sum h
 refine ⟨PyProof.Rows.joinOk_of (by rw [List.length_map]; show _+_ * 1≤_; omega),?_⟩
 rw [← text_join]
 show (glued ⟨#[32]⟩ (ps.map wordOf)).length≤200
 rw [size_glued,List.length_map]
 show _+_ * 1≤_
 omega
end Geo
set_option maxRecDepth 100000
namespace Toy
open PySem L2 Geo
theorem bd_dec {p:Pt} (h:Bd p):Dec p.1∧Dec p.2:=⟨dec_ok h.1 h.2.1,dec_ok h.2.2.1 h.2.2.2⟩
theorem fits {z:Str} {n:Nat} (h:z.length≤n) (hn:n≤1000):z.length≤sizeLine:=Nat.le_of_lt (small1000 (Nat.le_trans h hn))
section
variable {P:Program} {w:World} {K:PySem.W.Frag} {mg:Str→Option Value} {base:Heap}
def spSPt (K:PySem.W.Frag):Sp:=fun vs H Q _=>∃ v p,vs = [v]∧IsPt H v p∧Bd p∧Q (.str (wordOf p)) H
theorem scSPt:FnScope ["point","x","y"] ["point"] (defScope sSPt):=⟨rfl,rfl,rfl,by decide +kernel,rfl,by decide +kernel,by decide +kernel⟩
theorem ok_spt {f:Addr} {fd:FuncData} (F:Fun K "shown_point" "shown_point" sSPt f fd):FnOk P w K mg base CX0 1 f fd ["point"] (spSPt K):=by
 refine F.ok scSPt (fun vs H Q E h=>?_) (fun cdv A outer s H vs Q E hr h=>?_)
 ·obtain ⟨v,p,rfl,_⟩:=h; rfl
 ·obtain ⟨v,p,rfl,⟨a,rfl,ha⟩,bp,k⟩:=h
  obtain ⟨d1,d2⟩:=bd_dec bp
  refine ⟨_,pss_cons (ps_set (i:=1) scSPt.nd rfl (Or.inl rfl) (pe_ix ix_tup (pv 0) pe_int (fun _ _=>rfl)))
   (pss_cons (ps_set (i:=2) scSPt.nd rfl (Or.inl rfl) (pe_ix ix_tup (pv 0) pe_int (fun _ _=>rfl)))
   (pss_one (ps_ret (pe_joined (pf_cons (pe_fmt (pv 1)) (pf_cons pe_str (pf_cons (pe_fmt (pv 2)) pf_nil))))))),?_⟩
  have e0:∀ z:Str,PySem.Str.empty++z = z:=PySem.W.KT.empty_app
  have la:=d1.len
  have lb:=d2.len
  have wl:=word_len d1 d2
  have l1:(dec p.1++(⟨#[44]⟩:Str)).length≤6:=by rw [strLen_append]; show _+1≤6; omega
  refine ⟨_,rfl,a,_,_,_,rfl,rfl,SqT.of ha,atI_nat (j:=0) rfl,?_⟩
  refine ⟨_,rfl,a,_,_,_,rfl,rfl,SqT.of ha,atI_nat (j:=1) rfl,?_⟩
  refine ⟨_,rfl,p.1,rfl,d1.log,dec p.1,rfl,(by rw [e0]; exact fits la (by decide)),_,rfl,?_,_,rfl,p.2,rfl,d2.log,dec p.2,rfl,?_,?_,?_⟩
  ·rw [e0,comma_sign]; exact fits l1 (by decide)
  ·rw [e0,comma_sign,word_app]; exact fits wl (by decide)
  ·rw [e0,comma_sign,word_app]; exact fits wl (by decide)
  ·rw [e0,comma_sign,word_app]; exact k
abbrev n_sShow:List Str:=["points"]
def spShow (K:PySem.W.Frag):Sp:=fun vs H Q _=>∃ a xs ps,vs = [.ref a]∧SqL K H a xs∧ArePts H xs ps∧ps.length≤12∧(∀ p ∈ ps,Bd p)∧∀ H',Same H H'→Q (.str (textOf ps)) H'
theorem scShow:FnScope n_sShow ["points"] (defScope sShow):=⟨rfl,rfl,rfl,by decide +kernel,rfl,by decide +kernel,by decide +kernel⟩
abbrev c_shp:Scope:={ kind:=.function,names:=[(".0",.local),("point",.local),("shown_point",.globalImplicit)],isGenerator:=false,isCoroutine:=false }
theorem cs_shp {cdv:Value} {A:Around} {outer:List Env} {s:Shared} {H:Hp} {E:XK} {f:Addr}:CompScope (cxOf CX0 P w K mg base n_sShow "shown" (defScope sShow) f cdv A outer s H E).nox c_shp ["point"] [none] where
 kind:=rfl
 nocell:=by decide +kernel
 names:=by decide +kernel
 frees:=by show ∀ z ∈ c_shp.names,z.2 = .free→(defScope sShow).names.lookup z.1 = some .cell; decide +kernel
 nd:=by decide +kernel
 len:=rfl
 cap:=fun i j h=>match i,h with
  | 0,h=>by simp at h
  | n+1,h=>by simp at h
theorem nd_shp:(["point"]:List Str).Nodup:=by decide +kernel
theorem ok_show {f g1 g2:Addr} {fd d1 d2:FuncData} (F:Fun K "shown" "shown" sShow f fd)
  (C:FnOk P w K mg base CX0 2 g1 d1 ["points"] (spChks K)) (b1:Binds K d1 ["points"] []) (k1:PySem.W.keepIn K (.ref g1) = true) (m1:mg "check_points" = some (.ref g1))
  (S:FnOk P w K mg base CX0 1 g2 d2 ["point"] (spSPt K)) (b2:Binds K d2 ["point"] []) (k2:PySem.W.keepIn K (.ref g2) = true) (m2:mg "shown_point" = some (.ref g2)):FnOk P w K mg base CX0 3 f fd ["points"] (spShow K):=by
 refine F.ok scShow (fun vs H Q E h=>?_) (fun cdv A outer s H vs Q E hr h=>?_)
 ·obtain ⟨a,xs,ps,rfl,_⟩:=h; rfl
 ·obtain ⟨a,xs,ps,rfl,ha,hx,lp,bd,k⟩:=h
  have hr1:Room 1 _:=hr.mono (by decide)
  have lx:=hx.length
  refine ⟨_,pss_cons (ps_expr (pe_call C hr rfl m1 k1 b1 .nil pass0 (pa_cons (pv 0) pa_nil)))
   (pss_one (ps_ret (pe_bm PySem.F.plainAttrs_str PySem.F.slot_str_join PySem.F.type_str_join mt_join pe_str (pa_cons (pe_comp cs_shp rfl (pi_list (pv 0)) (fun _ _ _ _ _=>pg_name (i:=0) nd_shp rfl (Or.inl rfl)) (fun _ _ _ _ _=>pif_nil)
    (fun _ _ _ _ _=>pe_call S hr1 rfl m2 k2 b2 .nil pass0 (pa_cons (pv 0) pa_nil))) pa_nil)))),?_⟩
  refine ⟨_,rfl,a,xs,ps,rfl,ha,hx,lp,bd,?_⟩
  refine ⟨rfl,_,rfl,a,rfl,⟨_,ha⟩,fun D hD=>?_⟩
  refine comp_list (K:=K) (a:=a) (xs:=xs) (fun j σ' H'=>∃ v,σ' = [v]∧Same H H'∧H' D = some (.lst (((ps.take j).map wordOf).map V.str)))
   ⟨none,rfl,same_upd (Same.refl H) hD,upd_same⟩ (fun j σ' H' _ ⟨_,_,s4,_⟩=>s4.seq ha) ?_ ?_
  ·rintro j x σ' H' hj ⟨v,rfl,s4,h4⟩
   obtain ⟨p,p1,p2⟩:=Pair.get hx hj
   have hjl:=(List.getElem?_eq_some_iff.mp p1).1
   dsimp only [gName,tYes]
   refine iteT ⟨_,rfl,x,p,rfl,p2.same s4,bd p (List.mem_of_getElem? p1),_,h4,small1000 (by rw [List.length_map,List.length_map,List.length_take]; omega),_,rfl,same_upd s4 hD,?_⟩
   rw [upd_same,take_snoc p1,List.map_append,List.map_append]; rfl
  ·rintro σ' H' ⟨v,rfl,s4,h4⟩
   rw [List.take_of_length_le (by omega)] at h4
   have to:=text_ok (fun p hp=>bd_dec (bd p hp)) lp
   refine ⟨_,D,ps.map wordOf,rfl,rfl,SqL.of h4,?_,?_⟩
   ·rw [blank_sign]; exact to.1
   ·rw [blank_sign,text_join]; exact k H' s4
end
end Toy
set_option maxRecDepth 100000
namespace Toy
open PySem L2 Geo
structure Excs (K:PySem.W.Frag) (mg:Str→Option Value) (cH cP cS cF cM cN:Addr):Prop where
 mH:mg "HullError" = some (.ref cH)
 mP:mg "NoPoint" = some (.ref cP)
 mS:mg "NoSpot" = some (.ref cS)
 mF:mg "NoFour" = some (.ref cF)
 mM:mg "NoMiddle" = some (.ref cM)
 mN:mg "NoNote" = some (.ref cN)
 oP:ExcOk K cH cP
 kP:([cP,cS,cF,cM,cN].map fun d=>PySem.W.kitOne K (.ref cP) (.ref d)) = [true,false,false,false,false].map some
 oS:ExcOk K cH cS
 kS:([cP,cS,cF,cM,cN].map fun d=>PySem.W.kitOne K (.ref cS) (.ref d)) = [false,true,false,false,false].map some
 oF:ExcOk K cH cF
 kF:([cP,cS,cF,cM,cN].map fun d=>PySem.W.kitOne K (.ref cF) (.ref d)) = [false,false,true,false,false].map some
 oM:ExcOk K cH cM
 kM:([cP,cS,cF,cM,cN].map fun d=>PySem.W.kitOne K (.ref cM) (.ref d)) = [false,false,false,true,false].map some
 oN:ExcOk K cH cN
 kN:([cP,cS,cF,cM,cN].map fun d=>PySem.W.kitOne K (.ref cN) (.ref d)) = [false,false,false,false,true].map some
end Toy
set_option maxRecDepth 100000
namespace Toy
open PySem L2 Geo
section
variable {P:Program} {w:World} {K:PySem.W.Frag} {mg:Str→Option Value} {base:Heap} {cH cP cS cF cM cN:Addr}
structure SmP (p:Pt):Prop where
 x:p.1.natAbs < 2 ^ 81
 y:p.2.natAbs < 2 ^ 81
def spChkBad (cP:Addr):Sp:=fun vs H _ E=>∃ v p,vs = [v]∧IsPt H v p∧¬ Bd p∧SmP p∧E (.ref cP) none H
theorem ok_chkB {f:Addr} {fd:FuncData} (F:Fun K "check_point" "check_point" sChk f fd) (T:Txt mg) (X:Excs K mg cH cP cS cF cM cN):FnOk P w K mg base (CXE P w) 1 f fd ["point"] (spChkBad cP):=by
 refine Fun.okE F scChk (fun vs H Q E h=>?_) (fun cdv A outer s H vs Q E hr h=>?_)
 ·obtain ⟨v,p,rfl,_⟩:=h; rfl
 ·obtain ⟨v,p,rfl,⟨a,rfl,ha⟩,no,sm,k⟩:=h
  obtain ⟨t,hf⟩:=T.far
  have hu:(A.deeper (PyProof.Rows.envOfC "check_point" (defScope sChk) s.heap.objs.size f cdv)).units+16 < cLine:=by have:=hr.units; omega
  refine ⟨_,pss_one (ps_if (PW.pt (pw_or (pt_cmpR op_ne (pe_callB call_len_seq rfl T.len PySem.boot_len (pa_cons (pv 0) pa_nil)) pe_int (nomark _))
   (pw_or (pt_cmpR op_gt (pe_callB call_abs rfl T.abs PyProof.Rows.boot_abs (pa_cons (pe_ix ix_tup (pv 0) pe_int (fun _ _=>rfl)) pa_nil)) (pe_glob (v:=.int 1000) rfl hf ⟨t,rfl⟩) (nomark _))
    (pw_or1 (pt_cmpR op_gt (pe_callB call_abs rfl T.abs PyProof.Rows.boot_abs (pa_cons (pe_ix ix_tup (pv 0) pe_int (fun _ _=>rfl)) pa_nil)) (pe_glob (v:=.int 1000) rfl hf ⟨t,rfl⟩) (nomark _))))))
   (pss_one (ps_raiseE X.mP X.oP raisesE rfl rfl (pa_cons (pe_joined (pf_cons pe_str (pf_cons (pe_fmtT hr.gd hu (pv 0)) pf_nil))) pa_nil))) pss_nil),?_⟩
  have fin:(tRaise (.ref cP) (tCons (fun σ H Q=>fCons (tC (.str "no point: ")) (fCons (tFmtT (tVar 0)) fNil) σ H PySem.Str.empty Q) tNil) E:TS) { nx:=fun _ H'=>Q .non H',rt:=Q } [some (.ref a)] H:=by
   have l0:(PySem.Str.empty++(Str.ofString "no point: ")).length = 10:=by decide +kernel
   refine ⟨_,rfl,Nat.le_of_lt (small1000 (by omega)),_,rfl,a,[p.1,p.2],rfl,ha,(by show 2≤3; decide),?_,fun z lz=>⟨z,rfl,?_,?_,(by show 1≤100; decide),k⟩⟩
   ·intro n hn
    simp only [List.mem_cons,List.not_mem_nil,or_false] at hn
    rcases hn with e | e
    ·rw [e]; exact sm.x
    ·rw [e]; exact sm.y
   ·rw [strLen_append]
    exact Nat.le_of_lt (small1000 (by omega))
   ·rw [strLen_append]
    exact Nat.le_of_lt (small1000 (by omega))
  refine ⟨_,rfl,a,_,rfl,.inr (SqT.of ha),rfl,_,rfl,iteF ?_⟩
  refine ⟨_,rfl,a,_,_,_,rfl,rfl,SqT.of ha,atI_nat (j:=0) rfl,_,rfl,_,_,rfl,rfl,decide ((1000:Int) < (if p.1 < 0 then -p.1 else p.1)),rfl,?_⟩
  by_cases c:(1000:Int) < (if p.1 < 0 then -p.1 else p.1)
  ·rw [decide_eq_true c]
   exact iteT fin
  ·rw [decide_eq_false c]
   refine iteF ⟨_,rfl,a,_,_,_,rfl,rfl,SqT.of ha,atI_nat (j:=1) rfl,_,rfl,_,_,rfl,rfl,true,(by
    show V.bl (decide ((1000:Int) < (if p.2 < 0 then -p.2 else p.2))) = V.bl true
    rw [decide_eq_true]
    refine Classical.byContradiction fun c2=>no ?_
    unfold Bd
    split at c <;> split at c2 <;> omega),iteT fin⟩
structure BadL (K:PySem.W.Frag) (H:Hp) (a:Addr) (xs:List V) (ps:List Pt):Prop where
 sq:SqL K H a xs
 pts:ArePts H xs ps
 bad:12 < ps.length∨∃ (j:Nat) (p:Pt),ps[j]? = some p∧¬ Bd p∧SmP p∧∀ (i:Nat) (q:Pt),i < j→ps[i]? = some q→Bd q
theorem BadL.same {H H':Hp} {a:Addr} {xs:List V} {ps:List Pt} (h:BadL K H a xs ps) (s:Same H H'):BadL K H' a xs ps:=⟨s.seq h.sq,h.pts.same s,h.bad⟩
def spBad1 (K:PySem.W.Frag) (cP:Addr):Sp:=fun vs H _ E=>∃ a xs ps,vs = [.ref a]∧BadL K H a xs ps∧∀ H',Same H H'→E (.ref cP) none H'
theorem ok_chksB {f g:Addr} {fd gd:FuncData} (F:Fun K "check_points" "check_points" sChks f fd) (T:Txt mg) (X:Excs K mg cH cP cS cF cM cN)
  (G:FnOk P w K mg base CX0 1 g gd ["point"] spChk) (bG:Binds K gd ["point"] []) (kG:PySem.W.keepIn K (.ref g) = true) (mG:mg "check_point" = some (.ref g))
  (G':FnOk P w K mg base (CXE P w) 1 g gd ["point"] (spChkBad cP)) (_:Binds K gd ["point"] []) (_:PySem.W.keepIn K (.ref g) = true) (_:mg "check_point" = some (.ref g)) :
  FnOk P w K mg base (CXE P w) 2 f fd ["points"] (spBad1 K cP):=by
 have G2:=FnOk.or (FnOk.lift (CX:=CXE P w) G) G'
 refine Fun.okE F scChks (fun vs H Q E h=>?_) (fun cdv A outer s H vs Q E hr h=>?_)
 ·obtain ⟨a,xs,ps,rfl,_⟩:=h; rfl
 ·obtain ⟨a,xs,ps,rfl,b,k⟩:=h
  obtain ⟨t,hm⟩:=T.most
  have ln:=b.pts.length
  refine ⟨_,pss_cons (ps_if (pt_cmpR op_gt (pe_callB call_len_seq rfl T.len PySem.boot_len (pa_cons (pv 0) pa_nil)) (pe_glob (v:=.int 12) rfl hm ⟨t,rfl⟩) (nomark _))
    (pss_one (ps_raiseE X.mP X.oP raisesE rfl rfl (pa_cons (pe_joined (pf_cons pe_str (pf_cons (pe_fmt (pe_glob (v:=.int 12) rfl hm ⟨t,rfl⟩)) (pf_cons pe_str pf_nil)))) pa_nil))) pss_nil)
   (pss_one (ps_for PassesOwn.leaving rfl (pi_list (pv 0)) (pg_name (i:=1) scChks.nd rfl (Or.inl rfl)) (pss_one (ps_expr (pe_call G2 hr rfl mG kG bG .nil passE (pa_cons (pv 1) pa_nil)))))),?_⟩
  refine ⟨_,rfl,a,_,rfl,.inl b.sq,_,_,rfl,rfl,decide ((12:Int) < (xs.length:Int)),rfl,?_⟩
  by_cases c:(12:Int) < (xs.length:Int)
  ·rw [decide_eq_true c]
   refine iteT ⟨_,rfl,Nat.le_of_lt (small1000 (by decide +kernel)),12,rfl,by decide,_,rfl,Nat.le_of_lt (small1000 (by decide +kernel)),_,rfl,Nat.le_of_lt (small1000 (by decide +kernel)),Nat.le_of_lt (small1000 (by decide +kernel)),by decide,k H (Same.refl H)⟩
  ·rw [decide_eq_false c]
   obtain ⟨j,p,hj,no,sm,before⟩:∃ (j:Nat) (p:Pt),ps[j]? = some p∧¬ Bd p∧SmP p∧∀ (i:Nat) (q:Pt),i < j→ps[i]? = some q→Bd q:=by
    rcases b.bad with z | z
    ·omega
    ·exact z
   have hjl:=(List.getElem?_eq_some_iff.mp hj).1
   refine iteF ⟨_,rfl,a,rfl,⟨_,b.sq⟩,for_list (K:=K) (a:=a) (xs:=xs) (fun i σ H2=>H2 = H∧i≤j∧∃ v,σ = [some (.ref a),v]) ⟨rfl,Nat.zero_le _,none,rfl⟩ (fun i σ H2 _ ⟨e,_⟩=>by rw [e]; exact b.sq) ?_ ?_⟩
   ·rintro i y σ H2 hi ⟨rfl,hij,v,rfl⟩
    obtain ⟨q,h1,h2⟩:=Pair.get b.pts hi
    rcases Nat.lt_or_ge i j with z | z
    ·exact ⟨_,rfl,.inl ⟨y,q,rfl,h2,before i q z h1,rfl,z,some y,rfl⟩⟩
    ·have e:i = j:=by omega
     subst e
     rw [hj] at h1
     cases h1
     exact ⟨_,rfl,.inr ⟨y,p,rfl,h2,no,sm,k _ (Same.refl _)⟩⟩
   ·rintro σ H2 ⟨_,hij,_⟩
    omega
end
end Toy
set_option maxRecDepth 100000
namespace Toy
open PySem L2 Geo
section
variable {P:Program} {w:World} {K:PySem.W.Frag} {mg:Str→Option Value} {base:Heap} {cH cP cS cF cM cN:Addr}
abbrev kindNames:List Str:=["point","spot","four","middle","note"]
structure KindIs (K:PySem.W.Frag) (cH cP cS cF cM cN c:Addr) (j:Nat):Prop where
 ok:ExcOk K cH c
 bs:∃ b0 b1 b2 b3 b4:Bool,([cP,cS,cF,cM,cN].map fun d=>PySem.W.kitOne K (.ref c) (.ref d)) = [b0,b1,b2,b3,b4].map some∧[b0,b1,b2,b3,b4].countP id = 1∧[b0,b1,b2,b3,b4][j]? = some true∧∀ i,i < j→[b0,b1,b2,b3,b4][i]? = some false
 lt:j < 5
theorem kind_of {c:Addr} {j:Nat} (o:ExcOk K cH c) {bs:List Bool} (hb:([cP,cS,cF,cM,cN].map fun d=>PySem.W.kitOne K (.ref c) (.ref d)) = bs.map some) (e:bs = (List.range 5).map fun i=>decide (i = j)) (hj:j < 5):KindIs K cH cP cS cF cM cN c j:=by
 refine ⟨o,?_,hj⟩
 subst e
 have:j = 0∨j = 1∨j = 2∨j = 3∨j = 4:=by omega
 rcases this with z | z | z | z | z <;> subst z <;> exact ⟨_,_,_,_,_,hb,by decide,by decide,by decide⟩
theorem Excs.isP (X:Excs K mg cH cP cS cF cM cN):KindIs K cH cP cS cF cM cN cP 0:=kind_of X.oP X.kP (by decide) (by decide)
def spKind (K:PySem.W.Frag) (cH cP cS cF cM cN:Addr):Sp:=fun vs H Q _=>∃ a c j,vs = [.ref a]∧H a = some (excH a (.ref c))∧KindIs K cH cP cS cF cM cN c j∧∀ H',Same H H'→Q (.str (kindNames.getD j "")) H'
theorem scKind:FnScope ["e","kinds"] ["e"] (defScope sKind):=⟨rfl,rfl,rfl,by decide +kernel,rfl,by decide +kernel,by decide +kernel⟩
theorem boot_VE:bootBuiltins "ValueError" = some (.type "ValueError"):=by decide +kernel
theorem ok_kind {f:Addr} {fd:FuncData} (F:Fun K "_law_kind" "_law_kind" sKind f fd) (T:Txt mg) (X:Excs K mg cH cP cS cF cM cN):FnOkH P w K mg base 1 f fd ["e"] (spKind K cH cP cS cF cM cN):=by
 refine Fun.okH F scKind (fun vs H Q E h=>?_) (fun cdv A outer s H vs Q E hr h=>?_)
 ·obtain ⟨a,c,j,rfl,_⟩:=h; rfl
 ·obtain ⟨a,c,j,rfl,ha,ki,k⟩:=h
  obtain ⟨cd,dd,sl,hl⟩:=ki.ok.obj
  obtain ⟨b0,b1,b2,b3,b4,hb,hc,hj,hn⟩:=ki.bs
  simp only [List.map_cons,List.map_nil,List.cons.injEq,and_true] at hb
  obtain ⟨e0,e1,e2,e3,e4⟩:=hb
  have lk:=ki.ok.lk
  refine ⟨_,pss_cons (ps_set (i:=1) scKind.nd rfl (Or.inl rfl) (pe_lst (pa_cons (pe_callB (call_isiX hl lk) rfl T.isinstance PyProof.Rows.boot_isinstance (pa_cons (pv 0) (pa_cons (pe_glob (v:=.ref cP) rfl X.mP rfl) pa_nil)))
    (pa_cons (pe_callB (call_isiX hl lk) rfl T.isinstance PyProof.Rows.boot_isinstance (pa_cons (pv 0) (pa_cons (pe_glob (v:=.ref cS) rfl X.mS rfl) pa_nil)))
    (pa_cons (pe_callB (call_isiX hl lk) rfl T.isinstance PyProof.Rows.boot_isinstance (pa_cons (pv 0) (pa_cons (pe_glob (v:=.ref cF) rfl X.mF rfl) pa_nil)))
    (pa_cons (pe_callB (call_isiX hl lk) rfl T.isinstance PyProof.Rows.boot_isinstance (pa_cons (pv 0) (pa_cons (pe_glob (v:=.ref cM) rfl X.mM rfl) pa_nil))) pa_nil))))))
   (pss_cons (ps_expr (pe_bm PySem.F.plainAttrs_list PySem.F.slot_list_append PySem.F.type_list_append mt_append (pv 1) (pa_cons (pe_callB (call_isiX hl lk) rfl T.isinstance PyProof.Rows.boot_isinstance (pa_cons (pv 0) (pa_cons (pe_glob (v:=.ref cN) rfl X.mN rfl) pa_nil))) pa_nil)))
   (pss_cons (ps_if (PW.pt (pw_or (pt_not (pt_val (pe_callB (call_isiX hl lk) rfl T.isinstance PyProof.Rows.boot_isinstance (pa_cons (pv 0) (pa_cons (pe_bltn (v:=.ty "ValueError") rfl T.valueError boot_VE rfl) pa_nil)))))
    (pw_or1 (pt_cmpR op_ne (pe_bm PySem.F.plainAttrs_list PySem.F.slot_list_count PySem.F.type_list_count mt_countT (pv 1) (pa_cons pe_bl pa_nil)) pe_int (nomark _))))) (pss_one (ps_ret pe_str)) pss_nil)
   (pss_one (ps_ret (pe_ix ix_list (pe_lst (pa_cons pe_str (pa_cons pe_str (pa_cons pe_str (pa_cons pe_str (pa_cons pe_str pa_nil)))))) (pe_bm PySem.F.plainAttrs_list PySem.F.slot_list_index PySem.F.type_list_index mt_indexT (pv 1) (pa_cons pe_bl pa_nil)) (fun _ _=>rfl)))))),?_⟩
  refine ⟨_,rfl,a,.ref cP,.ref cP,b0,rfl,rfl,ha,e0,?_⟩
  refine ⟨_,rfl,a,.ref cS,.ref cS,b1,rfl,rfl,ha,e1,?_⟩
  refine ⟨_,rfl,a,.ref cF,.ref cF,b2,rfl,rfl,ha,e2,?_⟩
  refine ⟨_,rfl,a,.ref cM,.ref cM,b3,rfl,rfl,ha,e3,?_⟩
  refine ⟨(by show 4≤sizeLine; decide),fun l nl=>?_⟩
  have s1:=same_upd (o:=.lst [.bl b0,.bl b1,.bl b2,.bl b3]) (Same.refl H) nl
  have h1:(upd H l (.lst [.bl b0,.bl b1,.bl b2,.bl b3])) l = some (.lst [.bl b0,.bl b1,.bl b2,.bl b3]):=upd_same
  have a1:=s1 _ _ ha
  refine ⟨_,rfl,.inl ⟨rfl,_,SqL.of h1⟩,_,rfl,a,.ref cN,.ref cN,b4,rfl,rfl,a1,e4,l,_,_,rfl,rfl,h1,small1000 (by show 4≤1000; decide),?_⟩
  have nla:a ≠ l:=fun e=>by rw [e,nl] at ha; cases ha
  rw [upd_upd]
  have s2:=same_upd (o:=.lst ([b0,b1,b2,b3,b4].map V.bl)) (Same.refl H) nl
  have h2:(upd H l (.lst ([b0,b1,b2,b3,b4].map V.bl))) l = some (.lst ([b0,b1,b2,b3,b4].map V.bl)):=upd_same
  have a2:=s2 _ _ ha
  show tSeq _ _ _ _ (upd H l (.lst ([b0,b1,b2,b3,b4].map V.bl)))
  generalize (upd H l (.lst ([b0,b1,b2,b3,b4].map V.bl))) = H2 at s2 h2 a2
  refine ⟨_,rfl,a,.ty "ValueError",.type "ValueError",true,rfl,rfl,a2,ki.ok.val,true,rfl,iteF ?_⟩
  refine ⟨_,rfl,.inl ⟨rfl,_,SqL.of h2⟩,l,[b0,b1,b2,b3,b4],rfl,rfl,SqL.of h2,rfl,false,(by rw [hc]; rfl),iteF ?_⟩
  refine ⟨(by show 5≤sizeLine; decide),fun l2 nl2=>?_⟩
  have s3:=same_upd (o:=.lst (kindNames.map V.str)) (Same.refl H2) nl2
  have h3:=s3 _ _ h2
  refine ⟨_,rfl,.inl ⟨rfl,_,SqL.of h3⟩,l,[b0,b1,b2,b3,b4],j,rfl,rfl,SqL.of h3,hj,hn,(by show 5≤1000; decide),l2,kindNames.map V.str,_,.str (kindNames.getD j ""),rfl,rfl,SqL.of upd_same,?_,k _ (s2.trans s3)⟩
  refine atI_nat ?_
  rw [List.getElem?_map,List.getElem?_eq_getElem (show j < kindNames.length from ki.lt)]
  simp [List.getD,List.getElem?_eq_getElem (show j < kindNames.length from ki.lt)]
end
end Toy
set_option maxRecDepth 100000
namespace Toy
open PySem L2 Geo
section
variable {P:Program} {w:World} {K:PySem.W.Frag} {mg:Str→Option Value} {base:Heap} {cP:Addr}
abbrev n_sFour:List Str:=["points","part","first","second","told"]
theorem scFour:FnScope n_sFour ["points"] (defScope sFour):=⟨rfl,rfl,rfl,by decide +kernel,rfl,by decide +kernel,by decide +kernel⟩
abbrev n_sDepth:List Str:=["points","spot","lines"]
theorem scDepth:FnScope n_sDepth ["points","spot"] (defScope sDepth):=⟨rfl,rfl,rfl,by decide +kernel,rfl,by decide +kernel,by decide +kernel⟩
theorem scMid:FnScope ["points"] ["points"] (defScope sMid):=⟨rfl,rfl,rfl,by decide +kernel,rfl,by decide +kernel,by decide +kernel⟩
theorem ok_corB {f g1:Addr} {fd d1:FuncData} (F:Fun K "corners" "corners" sCor f fd)
  (C:FnOk P w K mg base (CXE P w) 2 g1 d1 ["points"] (spBad1 K cP)) (b1:Binds K d1 ["points"] []) (k1:PySem.W.keepIn K (.ref g1) = true) (m1:mg "check_points" = some (.ref g1)):FnOk P w K mg base (CXE P w) 4 f fd ["points"] (spBad1 K cP):=by
 refine Fun.okE F scCor (fun vs H Q E h=>?_) (fun cdv A outer s H vs Q E hr h=>?_)
 ·obtain ⟨a,xs,ps,rfl,_⟩:=h; rfl
 ·obtain ⟨a,xs,ps,rfl,b,k⟩:=h
  have hr2:Room 2 _:=hr.mono (by decide)
  exact ⟨_,pss_cons (ps_expr (pe_call C hr2 rfl m1 k1 b1 .nil passE (pa_cons (pv 0) pa_nil))) pss_never,⟨_,rfl,a,xs,ps,rfl,b,k⟩⟩
theorem ok_showB {f g1:Addr} {fd d1:FuncData} (F:Fun K "shown" "shown" sShow f fd)
  (C:FnOk P w K mg base (CXE P w) 2 g1 d1 ["points"] (spBad1 K cP)) (b1:Binds K d1 ["points"] []) (k1:PySem.W.keepIn K (.ref g1) = true) (m1:mg "check_points" = some (.ref g1)):FnOk P w K mg base (CXE P w) 3 f fd ["points"] (spBad1 K cP):=by
 refine Fun.okE F scShow (fun vs H Q E h=>?_) (fun cdv A outer s H vs Q E hr h=>?_)
 ·obtain ⟨a,xs,ps,rfl,_⟩:=h; rfl
 ·obtain ⟨a,xs,ps,rfl,b,k⟩:=h
  have hr2:Room 2 _:=hr.mono (by decide)
  exact ⟨_,pss_cons (ps_expr (pe_call C hr2 rfl m1 k1 b1 .nil passE (pa_cons (pv 0) pa_nil))) pss_never,⟨_,rfl,a,xs,ps,rfl,b,k⟩⟩
theorem ok_fourP {f g1:Addr} {fd d1:FuncData} (F:Fun K "four_parted" "four_parted" sFour f fd)
  (C:FnOk P w K mg base (CXE P w) 2 g1 d1 ["points"] (spBad1 K cP)) (b1:Binds K d1 ["points"] []) (k1:PySem.W.keepIn K (.ref g1) = true) (m1:mg "check_points" = some (.ref g1)):FnOk P w K mg base (CXE P w) 3 f fd ["points"] (spBad1 K cP):=by
 refine Fun.okE F scFour (fun vs H Q E h=>?_) (fun cdv A outer s H vs Q E hr h=>?_)
 ·obtain ⟨a,xs,ps,rfl,_⟩:=h; rfl
 ·obtain ⟨a,xs,ps,rfl,b,k⟩:=h
  have hr2:Room 2 _:=hr.mono (by decide)
  exact ⟨_,pss_cons (ps_expr (pe_call C hr2 rfl m1 k1 b1 .nil passE (pa_cons (pv 0) pa_nil))) pss_never,⟨_,rfl,a,xs,ps,rfl,b,k⟩⟩
theorem ok_midP {f g1:Addr} {fd d1:FuncData} (F:Fun K "middle" "middle" sMid f fd)
  (C:FnOk P w K mg base (CXE P w) 2 g1 d1 ["points"] (spBad1 K cP)) (b1:Binds K d1 ["points"] []) (k1:PySem.W.keepIn K (.ref g1) = true) (m1:mg "check_points" = some (.ref g1)):FnOk P w K mg base (CXE P w) 3 f fd ["points"] (spBad1 K cP):=by
 refine Fun.okE F scMid (fun vs H Q E h=>?_) (fun cdv A outer s H vs Q E hr h=>?_)
 ·obtain ⟨a,xs,ps,rfl,_⟩:=h; rfl
 ·obtain ⟨a,xs,ps,rfl,b,k⟩:=h
  have hr2:Room 2 _:=hr.mono (by decide)
  exact ⟨_,pss_cons (ps_expr (pe_call C hr2 rfl m1 k1 b1 .nil passE (pa_cons (pv 0) pa_nil))) pss_never,⟨_,rfl,a,xs,ps,rfl,b,k⟩⟩
def spBadV (K:PySem.W.Frag) (cP:Addr):Sp:=fun vs H _ E=>∃ a v xs ps,vs = [.ref a,v]∧BadL K H a xs ps∧∀ H',Same H H'→E (.ref cP) none H'
theorem ok_depthP {f g1:Addr} {fd d1:FuncData} (F:Fun K "depth" "depth" sDepth f fd)
  (C:FnOk P w K mg base (CXE P w) 2 g1 d1 ["points"] (spBad1 K cP)) (b1:Binds K d1 ["points"] []) (k1:PySem.W.keepIn K (.ref g1) = true) (m1:mg "check_points" = some (.ref g1)):FnOk P w K mg base (CXE P w) 3 f fd ["points","spot"] (spBadV K cP):=by
 refine Fun.okE F scDepth (fun vs H Q E h=>?_) (fun cdv A outer s H vs Q E hr h=>?_)
 ·obtain ⟨a,v,xs,ps,rfl,_⟩:=h; rfl
 ·obtain ⟨a,v,xs,ps,rfl,b,k⟩:=h
  have hr2:Room 2 _:=hr.mono (by decide)
  exact ⟨_,pss_cons (ps_expr (pe_call C hr2 rfl m1 k1 b1 .nil passE (pa_cons (pv 0) pa_nil))) pss_never,⟨_,rfl,a,xs,ps,rfl,b,k⟩⟩
structure GoodL (K:PySem.W.Frag) (H:Hp) (a:Addr) (xs:List V) (ps:List Pt):Prop where
 sq:SqL K H a xs
 pts:ArePts H xs ps
 len:ps.length≤12
 bd:∀ p ∈ ps,Bd p
theorem GoodL.same {H H':Hp} {a:Addr} {xs:List V} {ps:List Pt} (h:GoodL K H a xs ps) (s:Same H H'):GoodL K H' a xs ps:=⟨s.seq h.sq,h.pts.same s,h.len,h.bd⟩
def spPlacedB (K:PySem.W.Frag) (cP:Addr):Sp:=fun vs H _ E=>∃ a v xs ps,vs = [.ref a,v]∧(BadL K H a xs ps∨(GoodL K H a xs ps∧∃ p,IsPt H v p∧¬ Bd p∧SmP p))∧∀ H',Same H H'→E (.ref cP) none H'
theorem ok_placedB {f g1 g2:Addr} {fd d1 d2:FuncData} (F:Fun K "placed" "placed" sPlaced f fd)
  (C:FnOk P w K mg base CX0 2 g1 d1 ["points"] (spChks K)) (b1:Binds K d1 ["points"] []) (k1:PySem.W.keepIn K (.ref g1) = true) (m1:mg "check_points" = some (.ref g1))
  (C':FnOk P w K mg base (CXE P w) 2 g1 d1 ["points"] (spBad1 K cP)) (_:Binds K d1 ["points"] []) (_:PySem.W.keepIn K (.ref g1) = true) (_:mg "check_points" = some (.ref g1))
  (D:FnOk P w K mg base (CXE P w) 1 g2 d2 ["point"] (spChkBad cP)) (b2:Binds K d2 ["point"] []) (k2:PySem.W.keepIn K (.ref g2) = true) (m2:mg "check_point" = some (.ref g2)) :
  FnOk P w K mg base (CXE P w) 4 f fd ["points","point"] (spPlacedB K cP):=by
 have C2:=FnOk.or (FnOk.lift (CX:=CXE P w) C) C'
 refine Fun.okE F scPlaced (fun vs H Q E h=>?_) (fun cdv A outer s H vs Q E hr h=>?_)
 ·obtain ⟨a,v,xs,ps,rfl,_⟩:=h; rfl
 ·obtain ⟨a,v,xs,ps,rfl,b,k⟩:=h
  have hr2:Room 2 _:=hr.mono (by decide)
  have hr1:Room 1 _:=hr.mono (by decide)
  refine ⟨_,pss_cons (ps_expr (pe_call C2 hr2 rfl m1 k1 b1 .nil passE (pa_cons (pv 0) pa_nil))) (pss_cons (ps_expr (pe_call D hr1 rfl m2 k2 b2 .nil passE (pa_cons (pv 1) pa_nil))) pss_never),?_⟩
  rcases b with b | ⟨b,p,hp,no,sm⟩
  ·exact ⟨_,rfl,.inr ⟨a,xs,ps,rfl,b,k⟩⟩
  ·exact ⟨_,rfl,.inl ⟨a,xs,ps,rfl,b.sq,b.pts,b.len,b.bd,⟨_,rfl,v,p,rfl,hp,no,sm,k H (Same.refl H)⟩⟩⟩
def spPartedB (K:PySem.W.Frag) (cP:Addr):Sp:=fun vs H _ E=>∃ a b xs ps ys qs,vs = [.ref a,.ref b]∧(BadL K H a xs ps∨(GoodL K H a xs ps∧BadL K H b ys qs))∧∀ H',Same H H'→E (.ref cP) none H'
theorem ok_partedB {f g1:Addr} {fd d1:FuncData} (F:Fun K "parted" "parted" sParted f fd)
  (C:FnOk P w K mg base CX0 2 g1 d1 ["points"] (spChks K)) (b1:Binds K d1 ["points"] []) (k1:PySem.W.keepIn K (.ref g1) = true) (m1:mg "check_points" = some (.ref g1))
  (C':FnOk P w K mg base (CXE P w) 2 g1 d1 ["points"] (spBad1 K cP)) (_:Binds K d1 ["points"] []) (_:PySem.W.keepIn K (.ref g1) = true) (_:mg "check_points" = some (.ref g1)) :
  FnOk P w K mg base (CXE P w) 5 f fd ["ones","others"] (spPartedB K cP):=by
 have C2:=FnOk.or (FnOk.lift (CX:=CXE P w) C) C'
 refine Fun.okE F scParted (fun vs H Q E h=>?_) (fun cdv A outer s H vs Q E hr h=>?_)
 ·obtain ⟨a,b,xs,ps,ys,qs,rfl,_⟩:=h; rfl
 ·obtain ⟨a,b,xs,ps,ys,qs,rfl,h,k⟩:=h
  have hr2:Room 2 _:=hr.mono (by decide)
  refine ⟨_,pss_cons (ps_expr (pe_call C2 hr2 rfl m1 k1 b1 .nil passE (pa_cons (pv 0) pa_nil))) (pss_cons (ps_expr (pe_call C2 hr2 rfl m1 k1 b1 .nil passE (pa_cons (pv 1) pa_nil))) pss_never),?_⟩
  rcases h with h | ⟨h,h2⟩
  ·exact ⟨_,rfl,.inr ⟨a,xs,ps,rfl,h,k⟩⟩
  ·exact ⟨_,rfl,.inl ⟨a,xs,ps,rfl,h.sq,h.pts,h.len,h.bd,⟨_,rfl,.inr ⟨b,ys,qs,rfl,h2,k⟩⟩⟩⟩
end
end Toy
set_option maxRecDepth 100000
namespace Toy
open PySem L2 Geo
section
variable {P:Program} {w:World} {K:PySem.W.Frag} {mg:Str→Option Value} {base:Heap} {cH cP cS cF cM cN:Addr}
theorem cut_to (xs:List V) (i:Nat):cutV xs none (some (i:Int)) = xs.take i:=by
 unfold cutV
 rw [HT.sIx_nat,show HT.sIx xs.length 0 none = 0 from rfl,List.drop_zero,Nat.sub_zero]
 rcases Nat.le_total i xs.length with h | h
 ·rw [Nat.min_eq_left h]
 ·rw [Nat.min_eq_right h,List.take_of_length_le (Nat.le_refl _),List.take_of_length_le h]
theorem cut_off (xs:List V) (i:Nat):cutV xs (some (i:Int)) none = xs.drop i:=by
 unfold cutV
 rw [HT.sIx_nat,show HT.sIx xs.length xs.length none = xs.length from rfl]
 rcases Nat.le_total i xs.length with h | h
 ·rw [Nat.min_eq_left h,List.take_of_length_le (by rw [List.length_drop]; exact Nat.le_refl _)]
 ·rw [Nat.min_eq_right h,List.drop_of_length_le (Nat.le_refl _),List.drop_of_length_le h]; simp
theorem pair_rep {α β:Type} {F:α→β→Prop} {xs:List α} {ys:List β} (h:Paired F xs ys):∀ n:Nat,Paired F (List.replicate n xs).flatten (List.replicate n ys).flatten
 | 0=>.nil
 | n+1=>by rw [List.replicate_succ,List.replicate_succ,List.flatten_cons,List.flatten_cons]; exact Pair.append h (pair_rep h n)
abbrev n_sLBad:List Str:=["points","cell","far","place","point","at"]
def spLBad (K:PySem.W.Frag):Sp:=fun vs H Q _=>∃ r zs ps c,vs = [.ref r,.int c]∧H r = some (.lst zs)∧ArePts H zs ps∧ps.length≤12∧(∀ p ∈ ps,Bd p)∧0≤c∧∀ b xs qs H',Same H H'→H' b = some (.lst xs)→BadL K H' b xs qs→Q (.ref b) H'
theorem scLBad:FnScope n_sLBad ["points","cell"] (defScope sLBad):=⟨rfl,rfl,rfl,by decide +kernel,rfl,by decide +kernel,by decide +kernel⟩
structure Off (x:Int):Prop where
 far:x < -1000∨1000 < x
 sm:x.natAbs < 2 ^ 81
theorem place_at (z:Int) {f:Int} (f0:0≤f) (f1:f < 100000000000000000000):∃ x:Int,atI ([.int 1001,.int (-1001),.int (1001+f),.int (-1001 - f)]:List V) (z % 4) = some (.int x)∧Off x:=by
 have h:z % 4 = 0∨z % 4 = 1∨z % 4 = 2∨z % 4 = 3:=by omega
 rcases h with h | h | h | h
 ·rw [h]; exact ⟨1001,atI_nat (j:=0) rfl,by omega,by decide⟩
 ·rw [h]; exact ⟨-1001,atI_nat (j:=1) rfl,by omega,by decide⟩
 ·rw [h]; exact ⟨1001+f,atI_nat (j:=2) rfl,by omega,by omega⟩
 ·rw [h]; exact ⟨-1001 - f,atI_nat (j:=3) rfl,by omega,by omega⟩
theorem off_left {x:Int} (h:Off x):¬ Bd (x,0)∧SmP (x,0):=⟨fun b=>by have:=h.far; have h1:=b.1; have h2:=b.2.1; dsimp only at h1 h2; omega,⟨h.sm,by show (0:Int).natAbs < 2 ^ 81; decide⟩⟩
theorem off_right {x:Int} (h:Off x):¬ Bd (0,x)∧SmP (0,x):=⟨fun b=>by have:=h.far; have h1:=b.2.2.1; have h2:=b.2.2.2; dsimp only at h1 h2; omega,⟨by show (0:Int).natAbs < 2 ^ 81; decide,h.sm⟩⟩
theorem point_at (z:Int) {x:Int} (h:Off x) {H:Hp} {t u:Addr} (h1:H t = some (.tup [.int x,.int 0])) (h2:H u = some (.tup [.int 0,.int x])):∃ v p,atI ([.ref t,.ref u]:List V) (z % 2) = some v∧IsPt H v p∧¬ Bd p∧SmP p:=by
 have e:z % 2 = 0∨z % 2 = 1:=by omega
 rcases e with e | e
 ·rw [e]; exact ⟨_,(x,0),atI_nat (j:=0) rfl,⟨t,rfl,h1⟩,off_left h⟩
 ·rw [e]; exact ⟨_,(0,x),atI_nat (j:=1) rfl,⟨u,rfl,h2⟩,off_right h⟩
theorem bad_in {H:Hp} {b:Addr} {zs:List V} {ps:List Pt} {v:V} {p:Pt} (n:Nat) (hp:ArePts H zs ps) (bd:∀ q ∈ ps,Bd q) (hv:IsPt H v p) (no:¬ Bd p) (sm:SmP p) (hn:n≤ps.length) (hb:H b = some (.lst (zs.take n++[v]++zs.drop n))) :
  BadL K H b (zs.take n++[v]++zs.drop n) (ps.take n++[p]++ps.drop n):=by
 refine ⟨SqL.of hb,Pair.append (Pair.append (Pair.take n hp) (.cons hv .nil)) (Pair.drop n hp),.inr ⟨n,p,?_,no,sm,fun i q hi hq=>?_⟩⟩
 ·rw [List.append_assoc,List.getElem?_append_right (by rw [List.length_take]; omega),List.length_take,Nat.min_eq_left hn,Nat.sub_self]; rfl
 ·rw [List.append_assoc,List.getElem?_append_left (by rw [List.length_take]; omega)] at hq
  exact bd q (List.mem_of_mem_take (List.mem_of_getElem? hq))
theorem ok_lbad {f:Addr} {fd:FuncData} (F:Fun K "_law_bad" "_law_bad" sLBad f fd) (T:Txt mg):FnOk P w K mg base CX0 1 f fd ["points","cell"] (spLBad K):=by
 refine F.ok scLBad (fun vs H Q E h=>?_) (fun cdv A outer s H vs Q E hr h=>?_)
 ·obtain ⟨r,zs,ps,c,rfl,_⟩:=h; rfl
 ·obtain ⟨r,zs,ps,c,rfl,hz,hp,lp,bd,c0,k⟩:=h
  have lz:=hp.length
  refine ⟨_,pss_cons (ps_set (i:=2) scLBad.nd rfl (Or.inl rfl) (pe_op op_mod (pe_op op_fdiv (pv 1) pe_int) (pe_op op_pow pe_int pe_int)))
   (pss_cons (ps_if (pt_cmpR op_eq (pe_op op_mod (pv 1) pe_int) pe_int (nomark _))
    (pss_one (ps_ret (pe_slice sl_list (pe_op op_cat (pv 0) (pe_op op_rep (pe_lst (pa_cons (pe_tup (pa_cons pe_int (pa_cons pe_int pa_nil))) (pa_cons (pe_tup (pa_cons pe_int (pa_cons pe_int pa_nil))) pa_nil))) pe_int)) po_none (po_some (pe_op op_add pe_int (pe_op op_mod (pe_op op_fdiv (pv 1) pe_int) pe_int)))))) pss_nil)
   (pss_cons (ps_set (i:=3) scLBad.nd rfl (Or.inl rfl) (pe_ix ix_list (pe_lst (pa_cons pe_int (pa_cons (pe_un un_neg pe_int) (pa_cons (pe_op op_add pe_int (pv 2)) (pa_cons (pe_op op_sub (pe_un un_neg pe_int) (pv 2)) pa_nil))))) (pe_op op_mod (pe_op op_fdiv (pv 1) pe_int) pe_int) (fun _ _=>rfl)))
   (pss_cons (ps_set (i:=4) scLBad.nd rfl (Or.inl rfl) (pe_ix ix_list (pe_lst (pa_cons (pe_tup (pa_cons (pv 3) (pa_cons pe_int pa_nil))) (pa_cons (pe_tup (pa_cons pe_int (pa_cons (pv 3) pa_nil))) pa_nil))) (pe_op op_mod (pe_op op_fdiv (pv 1) pe_int) pe_int) (fun _ _=>rfl)))
   (pss_cons (ps_set (i:=5) scLBad.nd rfl (Or.inl rfl) (pe_op op_mod (pe_op op_fdiv (pv 1) pe_int) (pe_op op_add (pe_callB call_len_seq rfl T.len PySem.boot_len (pa_cons (pe_slice sl_list (pv 0) po_none (po_some pe_int)) pa_nil)) pe_int)))
   (pss_one (ps_ret (pe_op op_cat (pe_op op_cat (pe_slice sl_list (pe_slice sl_list (pv 0) po_none (po_some pe_int)) po_none (po_some (pv 5))) (pe_lst (pa_cons (pv 4) pa_nil))) (pe_slice sl_list (pe_slice sl_list (pv 0) po_none (po_some pe_int)) (po_some (pv 5)) po_none)))))))),?_⟩
  have e20:(10:Int) ^ (20:Int).toNat = 100000000000000000000:=by decide
  refine ⟨_,rfl,_,_,rfl,rfl,⟨by decide,by decide⟩,_,_,rfl,rfl,⟨by decide,by decide,by decide⟩,_,_,rfl,rfl,(by rw [e20]; show (0:Int) < 100000000000000000000; decide),?_⟩
  rw [e20]
  have f0:=Int.emod_nonneg (c / 64) (show (100000000000000000000:Int) ≠ 0 by decide)
  have f1:=Int.emod_lt_of_pos (c / 64) (show (0:Int) < 100000000000000000000 by decide)
  refine ⟨_,rfl,_,_,rfl,rfl,(by show (0:Int) < 4; decide),rfl,decide (c % 4 = 0),(by show V.bl (decide (V.int (c % 4) = V.int 0)) = _; by_cases z:c % 4 = 0 <;> simp [z]),?_⟩
  by_cases z:c % 4 = 0
  ·rw [decide_eq_true z]
   refine iteT ⟨_,rfl,(by show 2≤sizeLine; decide),fun t n1=>⟨(by show 2≤sizeLine; decide),fun u n2=>⟨(by show 2≤sizeLine; decide),fun l n3=>?_⟩⟩⟩
   have s1:=same_upd (o:=.tup [.int 0,.int 0]) (Same.refl H) n1
   have s2:=same_upd (o:=.tup [.int 1,.int 1]) (Same.refl (upd H t (.tup [.int 0,.int 0]))) n2
   have ht:(upd (upd H t (.tup [.int 0,.int 0])) u (.tup [.int 1,.int 1])) t = some (.tup [.int 0,.int 0]):=s2 _ _ upd_same
   have hu:(upd (upd H t (.tup [.int 0,.int 0])) u (.tup [.int 1,.int 1])) u = some (.tup [.int 1,.int 1]):=upd_same
   have s12:=s1.trans s2
   generalize (upd (upd H t (.tup [.int 0,.int 0])) u (.tup [.int 1,.int 1])) = H2 at *
   have s3:=same_upd (o:=.lst [.ref t,.ref u]) (Same.refl H2) n3
   have h3:(upd H2 l (.lst [.ref t,.ref u])) l = some (.lst [.ref t,.ref u]):=upd_same
   have t3:=s3 _ _ ht
   have u3:=s3 _ _ hu
   have s13:=s12.trans s3
   generalize (upd H2 l (.lst [.ref t,.ref u])) = H3 at *
   refine ⟨l,13,_,rfl,rfl,h3,by decide,by decide,(by show 2 * 13≤sizeLine; decide),fun l2 n4=>?_⟩
   have pr:ArePts H3 (List.replicate (13:Int).toNat [.ref t,.ref u]).flatten (List.replicate 13 [(0,0),(1,1)]).flatten:=pair_rep (.cons ⟨t,rfl,t3⟩ (.cons ⟨u,rfl,u3⟩ .nil)) 13
   have s4:=same_upd (o:=.lst (List.replicate (13:Int).toNat [V.ref t,V.ref u]).flatten) (Same.refl H3) n4
   have h4:(upd H3 l2 (.lst (List.replicate (13:Int).toNat [V.ref t,V.ref u]).flatten)) l2 = some (.lst (List.replicate (13:Int).toNat [V.ref t,V.ref u]).flatten):=upd_same
   have p4:=pr.same s4
   have s14:=s13.trans s4
   have lr:(List.replicate (13:Int).toNat [V.ref t,V.ref u]).flatten.length = 26:=by rw [len_rep]; rfl
   generalize (List.replicate (13:Int).toNat [V.ref t,V.ref u]).flatten = W at *
   generalize (upd H3 l2 (.lst W)) = H4 at *
   refine ⟨r,l2,zs,W,rfl,rfl,s14 _ _ hz,h4,Nat.le_of_lt (small1000 (by omega)),fun l3 n5=>?_⟩
   have s5:=same_upd (o:=.lst (zs++W)) (Same.refl H4) n5
   refine ⟨_,rfl,_,_,rfl,rfl,⟨by decide,by decide⟩,_,_,rfl,rfl,(by show (0:Int) < 9; decide),_,_,rfl,rfl,_,rfl,l3,_,rfl,SqL.of upd_same,fun l4 n6=>?_⟩
   have m0:=Int.emod_nonneg (c / 4) (show (9:Int) ≠ 0 by decide)
   have em:(13+c / 4 % 9:Int) = ((13+(c / 4 % 9).toNat:Nat):Int):=by omega
   have ec:cutV (zs++W) none (some (13+c / 4 % 9)) = (zs++W).take (13+(c / 4 % 9).toNat):=by rw [em,cut_to]
   show Q (.ref l4) (upd (upd H4 l3 (.lst (zs++W))) l4 (.lst (cutV (zs++W) none (some (13+c / 4 % 9)))))
   rw [ec]
   have s6:=same_upd (o:=.lst ((zs++W).take (13+(c / 4 % 9).toNat))) (Same.refl (upd H4 l3 (.lst (zs++W)))) n6
   have s16:=s14.trans (s5.trans s6)
   refine k l4 _ ((ps++(List.replicate 13 [(0,0),(1,1)]).flatten).take (13+(c / 4 % 9).toNat)) _ s16 upd_same ⟨SqL.of upd_same,?_,.inl ?_⟩
   ·exact Pair.take _ (Pair.append (hp.same s16) (p4.same (s5.trans s6)))
   ·rw [List.length_take,List.length_append,len_rep]
    show 12 < min (13+(c / 4 % 9).toNat) (ps.length+13 * 2)
    omega
  ·rw [decide_eq_false z]
   refine iteF ⟨_,rfl,_,rfl,_,_,rfl,rfl,_,rfl,_,rfl,_,_,rfl,rfl,(by show 4≤sizeLine; decide),fun l n1=>?_⟩
   have s1:=same_upd (o:=.lst [.int 1001,.int (-1001),.int (1001+c / 64 % 100000000000000000000),.int (-1001 - c / 64 % 100000000000000000000)]) (Same.refl H) n1
   have h1:(upd H l (.lst [.int 1001,.int (-1001),.int (1001+c / 64 % 100000000000000000000),.int (-1001 - c / 64 % 100000000000000000000)])) l = some (.lst [.int 1001,.int (-1001),.int (1001+c / 64 % 100000000000000000000),.int (-1001 - c / 64 % 100000000000000000000)]):=upd_same
   obtain ⟨x,ax,off⟩:=place_at (c / 16) f0 f1
   generalize (upd H l (.lst [.int 1001,.int (-1001),.int (1001+c / 64 % 100000000000000000000),.int (-1001 - c / 64 % 100000000000000000000)])) = H1 at *
   refine ⟨_,rfl,_,_,rfl,rfl,⟨by decide,by decide⟩,_,_,rfl,rfl,(by show (0:Int) < 4; decide),l,_,_,_,rfl,rfl,SqL.of h1,ax,?_⟩
   refine ⟨_,rfl,(by show 2≤sizeLine; decide),fun t n2=>⟨_,rfl,(by show 2≤sizeLine; decide),fun u n3=>⟨(by show 2≤sizeLine; decide),fun l2 n4=>?_⟩⟩⟩
   have s2:=same_upd (o:=.tup [.int x,.int 0]) (Same.refl H1) n2
   have s3:=same_upd (o:=.tup [.int 0,.int x]) (Same.refl (upd H1 t (.tup [.int x,.int 0]))) n3
   have ht:(upd (upd H1 t (.tup [.int x,.int 0])) u (.tup [.int 0,.int x])) t = some (.tup [.int x,.int 0]):=s3 _ _ upd_same
   have hu:(upd (upd H1 t (.tup [.int x,.int 0])) u (.tup [.int 0,.int x])) u = some (.tup [.int 0,.int x]):=upd_same
   have s13:=s1.trans (s2.trans s3)
   generalize (upd (upd H1 t (.tup [.int x,.int 0])) u (.tup [.int 0,.int x])) = H3 at *
   have s4:=same_upd (o:=.lst [.ref t,.ref u]) (Same.refl H3) n4
   have h4:(upd H3 l2 (.lst [.ref t,.ref u])) l2 = some (.lst [.ref t,.ref u]):=upd_same
   obtain ⟨v,p,av,pv4,no,sm⟩:=point_at (c / 4) off (s4 _ _ ht) (s4 _ _ hu)
   have s14:=s13.trans s4
   generalize (upd H3 l2 (.lst [.ref t,.ref u])) = H4 at *
   refine ⟨_,rfl,_,_,rfl,rfl,⟨by decide,by decide⟩,_,_,rfl,rfl,(by show (0:Int) < 2; decide),l2,_,_,_,rfl,rfl,SqL.of h4,av,?_⟩
   have e11:cutV zs none (some 11) = zs.take 11:=cut_to zs 11
   have l11:(zs.take 11).length = (ps.take 11).length:=by rw [List.length_take,List.length_take,lz]
   have p11:ArePts H4 (zs.take 11) (ps.take 11):=Pair.take 11 (hp.same s14)
   have b11:∀ q ∈ ps.take 11,Bd q:=fun q hq=>bd q (List.mem_of_mem_take hq)
   have len11:(ps.take 11).length≤11:=by rw [List.length_take]; omega
   refine ⟨_,rfl,_,_,rfl,rfl,⟨by decide,by decide⟩,_,rfl,_,rfl,r,_,rfl,SqL.of (s14 _ _ hz),fun l3 n5=>?_⟩
   rw [e11]
   have s5:=same_upd (o:=.lst (zs.take 11)) (Same.refl H4) n5
   have s15:=s14.trans s5
   have pv5:=pv4.same s5
   have p5:=p11.same s5
   refine ⟨l3,_,rfl,.inl (SqL.of upd_same),_,_,rfl,rfl,_,_,rfl,rfl,(by show (0:Int) < ((zs.take 11).length:Int)+1; omega),?_⟩
   have n0:=Int.emod_nonneg (c / 7) (show ((zs.take 11).length:Int)+1 ≠ 0 by omega)
   have n1':=Int.emod_lt_of_pos (c / 7) (show (0:Int) < ((zs.take 11).length:Int)+1 by omega)
   obtain ⟨n,en⟩:∃ n:Nat,c / 7 % (((zs.take 11).length:Int)+1) = (n:Int):=⟨_,(Int.toNat_of_nonneg n0).symm⟩
   have hn:n≤(ps.take 11).length:=by omega
   show gName 5 (V.int (c / 7 % (((zs.take 11).length:Int)+1))) _ _ _
   rw [en]
   generalize hP:ps.take 11 = P11 at *
   generalize hZ:zs.take 11 = Z11 at *
   generalize (upd H4 l3 (.lst Z11)) = H5 at *
   refine ⟨_,rfl,_,rfl,r,_,rfl,SqL.of (s15 _ _ hz),fun l4 n6=>?_⟩
   rw [e11]
   have s6:=same_upd (o:=.lst Z11) (Same.refl H5) n6
   refine ⟨_,rfl,_,rfl,l4,_,rfl,SqL.of upd_same,fun l5 n7=>?_⟩
   rw [cut_to]
   have s7:=same_upd (o:=.lst (Z11.take n)) (Same.refl (upd H5 l4 (.lst Z11))) n7
   refine ⟨_,rfl,(by show 1≤sizeLine; decide),fun l6 n8=>?_⟩
   have s8:=same_upd (o:=.lst [v]) (Same.refl (upd (upd H5 l4 (.lst Z11)) l5 (.lst (Z11.take n)))) n8
   have h7:=s8 _ _ (show (upd (upd H5 l4 (.lst Z11)) l5 (.lst (Z11.take n))) l5 = some (.lst (Z11.take n)) from upd_same)
   have h8:(upd (upd (upd H5 l4 (.lst Z11)) l5 (.lst (Z11.take n))) l6 (.lst [v])) l6 = some (.lst [v]):=upd_same
   have s58:=s6.trans (s7.trans s8)
   generalize (upd (upd (upd H5 l4 (.lst Z11)) l5 (.lst (Z11.take n))) l6 (.lst [v])) = H8 at *
   refine ⟨l5,l6,_,_,rfl,rfl,h7,h8,Nat.le_of_lt (small1000 (by rw [List.length_take]; show _+1≤1000; omega)),fun l7 n9=>?_⟩
   have s9:=same_upd (o:=.lst (Z11.take n++[v])) (Same.refl H8) n9
   have h9:(upd H8 l7 (.lst (Z11.take n++[v]))) l7 = some (.lst (Z11.take n++[v])):=upd_same
   have s59:=s58.trans s9
   generalize (upd H8 l7 (.lst (Z11.take n++[v]))) = H9 at *
   refine ⟨_,rfl,_,rfl,r,_,rfl,SqL.of ((s15.trans s59) _ _ hz),fun l8 n10=>?_⟩
   rw [e11]
   have s10:=same_upd (o:=.lst Z11) (Same.refl H9) n10
   refine ⟨_,rfl,_,rfl,l8,_,rfl,SqL.of upd_same,fun l9 n11=>?_⟩
   rw [cut_off]
   have s11:=same_upd (o:=.lst (Z11.drop n)) (Same.refl (upd H9 l8 (.lst Z11))) n11
   have h11:(upd (upd H9 l8 (.lst Z11)) l9 (.lst (Z11.drop n))) l9 = some (.lst (Z11.drop n)):=upd_same
   have h91:=(s10.trans s11) _ _ h9
   have sA:=s59.trans (s10.trans s11)
   generalize (upd (upd H9 l8 (.lst Z11)) l9 (.lst (Z11.drop n))) = HA at *
   refine ⟨l7,l9,_,_,rfl,rfl,h91,h11,Nat.le_of_lt (small1000 (by rw [List.length_append,List.length_take,List.length_drop]; show _+1+_≤1000; omega)),fun lB nB=>?_⟩
   have sB:=same_upd (o:=.lst (Z11.take n++[v]++Z11.drop n)) (Same.refl HA) nB
   have sE:=s15.trans (sA.trans sB)
   exact k lB _ _ _ sE upd_same (bad_in n (p5.same (sA.trans sB)) b11 (pv5.same (sA.trans sB)) no sm hn upd_same)
def AskGood (K:PySem.W.Frag) (H:Hp) (k:Int) (a:Addr):Prop:=(k = 0∨k = 1∨k = 2∨k = 3∨k = 7∨k = 8)∧∃ xs ps,GoodL K H a xs ps∧0 < ps.length
def AskBad (K:PySem.W.Frag) (H:Hp) (k:Int) (a:Addr):Prop:=((k = 0∨k = 1∨k = 2∨k = 3∨k = 4∨k = 5∨k = 6∨k = 7∨k = 9)∧∃ xs ps,BadL K H a xs ps)∨((k = 8∨k = 10)∧∃ v p,SqL K H a [v]∧IsPt H v p∧¬ Bd p∧SmP p)
def spAsk (K:PySem.W.Frag) (cP:Addr):Sp:=fun vs H Q E=>∃ k a,vs = [.int k,.ref a]∧((AskGood K H k a∧∀ v H',Same H H'→Q v H')∨(AskBad K H k a∧∀ H',Same H H'→E (.ref cP) none H'))
theorem scAsked:FnScope ["which","points"] ["which","points"] (defScope sAsked):=⟨rfl,rfl,rfl,by decide +kernel,rfl,by decide +kernel,by decide +kernel⟩
theorem no_k {k j:Int} (h:k ≠ j):V.bl (decide (V.int k = V.int j)) = V.bl false:=by rw [decide_eq_false fun e=>h (V.int.inj e)]
theorem is_k {j:Int}:V.bl (decide (V.int j = V.int j)) = V.bl true:=by rw [decide_eq_true rfl]
theorem bd00:Bd (0,0):=⟨by decide,by decide,by decide,by decide⟩
theorem ok_asked {f g1 g2 g3 g4 g5 g6 g7:Addr} {fd d1 d2 d3 d4 d5 d6 d7:FuncData} (F:Fun K "_law_asked" "_law_asked" sAsked f fd)
  (C:FnOk P w K mg base CX0 4 g1 d1 ["points"] (spCor K)) (b1:Binds K d1 ["points"] []) (k1:PySem.W.keepIn K (.ref g1) = true) (m1:mg "corners" = some (.ref g1))
  (C':FnOk P w K mg base (CXE P w) 4 g1 d1 ["points"] (spBad1 K cP)) (_:Binds K d1 ["points"] []) (_:PySem.W.keepIn K (.ref g1) = true) (_:mg "corners" = some (.ref g1))
  (L:FnOk P w K mg base CX0 4 g2 d2 ["points","point"] (spPlaced K)) (b2:Binds K d2 ["points","point"] []) (k2:PySem.W.keepIn K (.ref g2) = true) (m2:mg "placed" = some (.ref g2))
  (L':FnOk P w K mg base (CXE P w) 4 g2 d2 ["points","point"] (spPlacedB K cP)) (_:Binds K d2 ["points","point"] []) (_:PySem.W.keepIn K (.ref g2) = true) (_:mg "placed" = some (.ref g2))
  (R:FnOk P w K mg base CX0 5 g3 d3 ["ones","others"] (spLS K)) (b3:Binds K d3 ["ones","others"] []) (k3:PySem.W.keepIn K (.ref g3) = true) (m3:mg "parted" = some (.ref g3))
  (R':FnOk P w K mg base (CXE P w) 5 g3 d3 ["ones","others"] (spPartedB K cP)) (_:Binds K d3 ["ones","others"] []) (_:PySem.W.keepIn K (.ref g3) = true) (_:mg "parted" = some (.ref g3))
  (FOU:FnOk P w K mg base (CXE P w) 3 g4 d4 ["points"] (spBad1 K cP)) (b4:Binds K d4 ["points"] []) (k4:PySem.W.keepIn K (.ref g4) = true) (m4:mg "four_parted" = some (.ref g4))
  (DEP:FnOk P w K mg base (CXE P w) 3 g5 d5 ["points","spot"] (spBadV K cP)) (b5:Binds K d5 ["points","spot"] []) (k5:PySem.W.keepIn K (.ref g5) = true) (m5:mg "depth" = some (.ref g5))
  (MID:FnOk P w K mg base (CXE P w) 3 g6 d6 ["points"] (spBad1 K cP)) (b6:Binds K d6 ["points"] []) (k6:PySem.W.keepIn K (.ref g6) = true) (m6:mg "middle" = some (.ref g6))
  (S:FnOk P w K mg base CX0 3 g7 d7 ["points"] (spShow K)) (b7:Binds K d7 ["points"] []) (k7:PySem.W.keepIn K (.ref g7) = true) (m7:mg "shown" = some (.ref g7))
  (S':FnOk P w K mg base (CXE P w) 3 g7 d7 ["points"] (spBad1 K cP)) (_:Binds K d7 ["points"] []) (_:PySem.W.keepIn K (.ref g7) = true) (_:mg "shown" = some (.ref g7)) :
  FnOk P w K mg base (CXE P w) 6 f fd ["which","points"] (spAsk K cP):=by
 have COR:=FnOk.or (FnOk.lift (CX:=CXE P w) C) C'
 have PLC:=FnOk.or (FnOk.lift (CX:=CXE P w) (placed_word L)) L'
 have PRT:=FnOk.or (FnOk.lift (CX:=CXE P w) (parted_word R)) R'
 have SHW:=FnOk.or (FnOk.lift (CX:=CXE P w) S) S'
 refine Fun.okE F scAsked (fun vs H Q E h=>?_) (fun cdv A outer s H vs Q E hr h=>?_)
 ·obtain ⟨k,a,rfl,_⟩:=h; rfl
 ·obtain ⟨k,a,rfl,h⟩:=h
  have hr4:Room 4 _:=hr.mono (by decide)
  have hr3:Room 3 _:=hr.mono (by decide)
  refine ⟨_,pss_cons (ps_if (pt_cmpR op_eq (pv 0) pe_int (nomark _)) (pss_one (ps_ret (pe_call COR hr4 rfl m1 k1 b1 .nil passE (pa_cons (pv 1) pa_nil)))) pss_nil)
   (pss_cons (ps_if (pt_cmpR op_eq (pv 0) pe_int (nomark _)) (pss_one (ps_ret (pe_call PLC hr4 rfl m2 k2 b2 .nil passE (pa_cons (pv 1) (pa_cons (pe_tup (pa_cons pe_int (pa_cons pe_int pa_nil))) pa_nil))))) pss_nil)
   (pss_cons (ps_if (pt_cmpR op_eq (pv 0) pe_int (nomark _)) (pss_one (ps_ret (pe_call PRT hr rfl m3 k3 b3 .nil passE (pa_cons (pv 1) (pa_cons (pe_lst pa_nil) pa_nil))))) pss_nil)
   (pss_cons (ps_if (pt_cmpR op_eq (pv 0) pe_int (nomark _)) (pss_one (ps_ret (pe_call PRT hr rfl m3 k3 b3 .nil passE (pa_cons (pe_lst (pa_cons (pe_tup (pa_cons pe_int (pa_cons pe_int pa_nil))) pa_nil)) (pa_cons (pv 1) pa_nil))))) pss_nil)
   (pss_cons (ps_if (pt_cmpR op_eq (pv 0) pe_int (nomark _)) (pss_one (ps_ret (pe_call PRT hr rfl m3 k3 b3 .nil passE (pa_cons (pe_lst pa_nil) (pa_cons (pv 1) pa_nil))))) pss_nil)
   (pss_cons (ps_if (pt_cmpR op_eq (pv 0) pe_int (nomark _)) (pss_one (ps_ret (pe_call PLC hr4 rfl m2 k2 b2 .nil passE (pa_cons (pe_lst pa_nil) (pa_cons (pe_ix ix_list (pv 1) (pe_un un_neg pe_int) (fun _ _=>rfl)) pa_nil))))) pss_nil)
   (pss_cons (ps_if (pt_cmpR op_eq (pv 0) pe_int (nomark _)) (pss_one (ps_ret (pe_call FOU hr3 rfl m4 k4 b4 .nil passE (pa_cons (pv 1) pa_nil)))) pss_nil)
   (pss_cons (ps_if (pt_cmpR op_eq (pv 0) pe_int (nomark _)) (pss_one (ps_ret (pe_call DEP hr3 rfl m5 k5 b5 .nil passE (pa_cons (pv 1) (pa_cons (pe_tup (pa_cons pe_int (pa_cons pe_int (pa_cons pe_int pa_nil)))) pa_nil))))) pss_nil)
   (pss_cons (ps_if (pt_cmpR op_eq (pv 0) pe_int (nomark _)) (pss_one (ps_ret (pe_call MID hr3 rfl m6 k6 b6 .nil passE (pa_cons (pv 1) pa_nil)))) pss_nil)
   (pss_cons (ps_if (pt_cmpR op_eq (pv 0) pe_int (nomark _)) (pss_one (ps_ret (pe_call SHW hr3 rfl m7 k7 b7 .nil passE (pa_cons (pv 1) pa_nil)))) pss_nil)
   (pss_one (ps_ret (pe_call PLC hr4 rfl m2 k2 b2 .nil passE (pa_cons (pe_lst (pa_cons (pe_tup (pa_cons pe_int (pa_cons pe_int pa_nil))) pa_nil)) (pa_cons (pe_ix ix_list (pv 1) (pe_un un_neg pe_int) (fun _ _=>rfl)) pa_nil)))))))))))))),?_⟩
  rcases h with ⟨⟨kk,xs,ps,g,l0⟩,kq⟩ | ⟨(⟨kk,xs,ps,b⟩ | ⟨kk,v,p,sq,hv,no,sm⟩),kE⟩
  ·obtain ⟨v,p,av,hv,bp⟩:∃ v p,atI xs (-1) = some v∧IsPt H v p∧Bd p:=by
    have lx:=g.pts.length
    have hl:ps.length - 1 < ps.length:=by omega
    obtain ⟨v,v1,v2⟩:=Pair.get' g.pts (List.getElem?_eq_getElem hl)
    exact ⟨v,_,atI_m1 (by rw [lx]; exact v1),v2,g.bd _ (List.getElem_mem hl)⟩
   rcases kk with e | e | e | e | e | e
   ·subst e; exact ⟨_,rfl,rfl,true,is_k,iteT ⟨_,rfl,.inl ⟨a,xs,ps,rfl,g.sq,g.pts,g.len,g.bd,fun r zs H1 _ s1 _ _=>kq _ H1 s1⟩⟩⟩
   ·subst e; exact ⟨_,rfl,rfl,false,no_k (by decide),iteF ⟨_,rfl,rfl,true,is_k,iteT ⟨_,rfl,(by show 2≤sizeLine; decide),fun u nu=>.inl ⟨a,xs,ps,.ref u,(0,0),rfl,(g.same (same_upd (Same.refl H) nu)).sq,(g.same (same_upd (Same.refl H) nu)).pts,g.len,g.bd,⟨u,rfl,upd_same⟩,bd00,fun b r t H1 _ s1 _ _=>kq _ H1 ((same_upd (Same.refl H) nu).trans s1)⟩⟩⟩⟩
   ·subst e; exact ⟨_,rfl,rfl,false,no_k (by decide),iteF ⟨_,rfl,rfl,false,no_k (by decide),iteF ⟨_,rfl,rfl,true,is_k,iteT ⟨_,rfl,(by show 0≤sizeLine; decide),fun l nl=>.inl ⟨a,xs,ps,l,[],[],rfl,(g.same (same_upd (Same.refl H) nl)).sq,(g.same (same_upd (Same.refl H) nl)).pts,SqL.of upd_same,.nil,g.bd,(fun q hq=>absurd hq (by simp)),(by simp),g.len,(by simp),fun c r rest H1 _ s1 _ _=>kq _ H1 ((same_upd (Same.refl H) nl).trans s1)⟩⟩⟩⟩⟩
   ·subst e; exact ⟨_,rfl,rfl,false,no_k (by decide),iteF ⟨_,rfl,rfl,false,no_k (by decide),iteF ⟨_,rfl,rfl,false,no_k (by decide),iteF ⟨_,rfl,rfl,true,is_k,iteT ⟨(by show 2≤sizeLine; decide),fun u nu=>⟨(by show 1≤sizeLine; decide),fun l nl=>⟨_,rfl,.inl ⟨l,[.ref u],[(0,0)],a,xs,ps,rfl,SqL.of upd_same,.cons ⟨u,rfl,(same_upd (Same.refl _) nl) _ _ upd_same⟩ .nil,(g.same ((same_upd (Same.refl H) nu).trans (same_upd (Same.refl _) nl))).sq,(g.same ((same_upd (Same.refl H) nu).trans (same_upd (Same.refl _) nl))).pts,(fun q hq=>by rw [List.mem_singleton] at hq; rw [hq]; exact bd00),g.bd,(by have:=g.len; simp; omega),(by simp),g.len,fun c r rest H1 _ s1 _ _=>kq _ H1 (((same_upd (Same.refl H) nu).trans (same_upd (Same.refl _) nl)).trans s1)⟩⟩⟩⟩⟩⟩⟩⟩
   ·subst e; exact ⟨_,rfl,rfl,false,no_k (by decide),iteF ⟨_,rfl,rfl,false,no_k (by decide),iteF ⟨_,rfl,rfl,false,no_k (by decide),iteF ⟨_,rfl,rfl,false,no_k (by decide),iteF ⟨_,rfl,rfl,false,no_k (by decide),iteF ⟨_,rfl,rfl,false,no_k (by decide),iteF ⟨_,rfl,rfl,false,no_k (by decide),iteF ⟨_,rfl,rfl,false,no_k (by decide),iteF ⟨_,rfl,rfl,false,no_k (by decide),iteF ⟨_,rfl,rfl,true,is_k,iteT ⟨_,rfl,.inl ⟨a,xs,ps,rfl,g.sq,g.pts,g.len,g.bd,fun H1 s1=>kq _ H1 s1⟩⟩⟩⟩⟩⟩⟩⟩⟩⟩⟩⟩
   ·subst e; exact ⟨_,rfl,rfl,false,no_k (by decide),iteF ⟨_,rfl,rfl,false,no_k (by decide),iteF ⟨_,rfl,rfl,false,no_k (by decide),iteF ⟨_,rfl,rfl,false,no_k (by decide),iteF ⟨_,rfl,rfl,false,no_k (by decide),iteF ⟨_,rfl,rfl,false,no_k (by decide),iteF ⟨_,rfl,rfl,false,no_k (by decide),iteF ⟨_,rfl,rfl,false,no_k (by decide),iteF ⟨_,rfl,rfl,false,no_k (by decide),iteF ⟨_,rfl,rfl,false,no_k (by decide),iteF ⟨(by show 2≤sizeLine; decide),fun u nu=>⟨(by show 1≤sizeLine; decide),fun l nl=>⟨_,rfl,_,rfl,a,_,_,_,rfl,rfl,(g.same ((same_upd (Same.refl H) nu).trans (same_upd (Same.refl _) nl))).sq,av,.inl ⟨l,[.ref u],[(0,0)],v,p,rfl,SqL.of upd_same,.cons ⟨u,rfl,(same_upd (Same.refl _) nl) _ _ upd_same⟩ .nil,(by simp),(fun q hq=>by rw [List.mem_singleton] at hq; rw [hq]; exact bd00),hv.same ((same_upd (Same.refl H) nu).trans (same_upd (Same.refl _) nl)),bp,fun b r t H1 _ s1 _ _=>kq _ H1 (((same_upd (Same.refl H) nu).trans (same_upd (Same.refl _) nl)).trans s1)⟩⟩⟩⟩⟩⟩⟩⟩⟩⟩⟩⟩⟩⟩
  ·rcases kk with e | e | e | e | e | e | e | e | e
   ·subst e; exact ⟨_,rfl,rfl,true,is_k,iteT ⟨_,rfl,.inr ⟨a,xs,ps,rfl,b,kE⟩⟩⟩
   ·subst e; exact ⟨_,rfl,rfl,false,no_k (by decide),iteF ⟨_,rfl,rfl,true,is_k,iteT ⟨_,rfl,(by show 2≤sizeLine; decide),fun u nu=>.inr ⟨a,.ref u,xs,ps,rfl,.inl (b.same (same_upd (Same.refl H) nu)),fun H1 s1=>kE H1 ((same_upd (Same.refl H) nu).trans s1)⟩⟩⟩⟩
   ·subst e; exact ⟨_,rfl,rfl,false,no_k (by decide),iteF ⟨_,rfl,rfl,false,no_k (by decide),iteF ⟨_,rfl,rfl,true,is_k,iteT ⟨_,rfl,(by show 0≤sizeLine; decide),fun l nl=>.inr ⟨a,l,xs,ps,[],[],rfl,.inl (b.same (same_upd (Same.refl H) nl)),fun H1 s1=>kE H1 ((same_upd (Same.refl H) nl).trans s1)⟩⟩⟩⟩⟩
   ·subst e; exact ⟨_,rfl,rfl,false,no_k (by decide),iteF ⟨_,rfl,rfl,false,no_k (by decide),iteF ⟨_,rfl,rfl,false,no_k (by decide),iteF ⟨_,rfl,rfl,true,is_k,iteT ⟨(by show 2≤sizeLine; decide),fun u nu=>⟨(by show 1≤sizeLine; decide),fun l nl=>⟨_,rfl,.inr ⟨l,a,[.ref u],[(0,0)],xs,ps,rfl,.inr ⟨⟨SqL.of upd_same,.cons ⟨u,rfl,(same_upd (Same.refl _) nl) _ _ upd_same⟩ .nil,(by simp),(fun q hq=>by rw [List.mem_singleton] at hq; rw [hq]; exact bd00)⟩,b.same ((same_upd (Same.refl H) nu).trans (same_upd (Same.refl _) nl))⟩,fun H1 s1=>kE H1 (((same_upd (Same.refl H) nu).trans (same_upd (Same.refl _) nl)).trans s1)⟩⟩⟩⟩⟩⟩⟩⟩
   ·subst e; exact ⟨_,rfl,rfl,false,no_k (by decide),iteF ⟨_,rfl,rfl,false,no_k (by decide),iteF ⟨_,rfl,rfl,false,no_k (by decide),iteF ⟨_,rfl,rfl,false,no_k (by decide),iteF ⟨_,rfl,rfl,false,no_k (by decide),iteF ⟨_,rfl,rfl,false,no_k (by decide),iteF ⟨_,rfl,rfl,true,is_k,iteT ⟨_,rfl,a,xs,ps,rfl,b,kE⟩⟩⟩⟩⟩⟩⟩⟩
   ·subst e; exact ⟨_,rfl,rfl,false,no_k (by decide),iteF ⟨_,rfl,rfl,false,no_k (by decide),iteF ⟨_,rfl,rfl,false,no_k (by decide),iteF ⟨_,rfl,rfl,false,no_k (by decide),iteF ⟨_,rfl,rfl,false,no_k (by decide),iteF ⟨_,rfl,rfl,false,no_k (by decide),iteF ⟨_,rfl,rfl,false,no_k (by decide),iteF ⟨_,rfl,rfl,true,is_k,iteT ⟨_,rfl,(by show 3≤sizeLine; decide),fun u nu=>⟨a,.ref u,xs,ps,rfl,b.same (same_upd (Same.refl H) nu),fun H1 s1=>kE H1 ((same_upd (Same.refl H) nu).trans s1)⟩⟩⟩⟩⟩⟩⟩⟩⟩⟩
   ·subst e; exact ⟨_,rfl,rfl,false,no_k (by decide),iteF ⟨_,rfl,rfl,false,no_k (by decide),iteF ⟨_,rfl,rfl,false,no_k (by decide),iteF ⟨_,rfl,rfl,false,no_k (by decide),iteF ⟨_,rfl,rfl,false,no_k (by decide),iteF ⟨_,rfl,rfl,false,no_k (by decide),iteF ⟨_,rfl,rfl,false,no_k (by decide),iteF ⟨_,rfl,rfl,false,no_k (by decide),iteF ⟨_,rfl,rfl,true,is_k,iteT ⟨_,rfl,a,xs,ps,rfl,b,kE⟩⟩⟩⟩⟩⟩⟩⟩⟩⟩
   ·subst e; exact ⟨_,rfl,rfl,false,no_k (by decide),iteF ⟨_,rfl,rfl,false,no_k (by decide),iteF ⟨_,rfl,rfl,false,no_k (by decide),iteF ⟨_,rfl,rfl,false,no_k (by decide),iteF ⟨_,rfl,rfl,false,no_k (by decide),iteF ⟨_,rfl,rfl,false,no_k (by decide),iteF ⟨_,rfl,rfl,false,no_k (by decide),iteF ⟨_,rfl,rfl,false,no_k (by decide),iteF ⟨_,rfl,rfl,false,no_k (by decide),iteF ⟨_,rfl,rfl,true,is_k,iteT ⟨_,rfl,.inr ⟨a,xs,ps,rfl,b,kE⟩⟩⟩⟩⟩⟩⟩⟩⟩⟩⟩⟩
   ·subst e; exact ⟨_,rfl,rfl,false,no_k (by decide),iteF ⟨_,rfl,rfl,false,no_k (by decide),iteF ⟨_,rfl,rfl,false,no_k (by decide),iteF ⟨_,rfl,rfl,false,no_k (by decide),iteF ⟨_,rfl,rfl,true,is_k,iteT ⟨(by show 0≤sizeLine; decide),fun l nl=>⟨_,rfl,.inr ⟨l,a,[],[],xs,ps,rfl,.inr ⟨⟨SqL.of upd_same,.nil,(by simp),(fun q hq=>absurd hq (by simp))⟩,b.same (same_upd (Same.refl H) nl)⟩,fun H1 s1=>kE H1 ((same_upd (Same.refl H) nl).trans s1)⟩⟩⟩⟩⟩⟩⟩⟩
  ·rcases kk with e | e
   ·subst e; exact ⟨_,rfl,rfl,false,no_k (by decide),iteF ⟨_,rfl,rfl,false,no_k (by decide),iteF ⟨_,rfl,rfl,false,no_k (by decide),iteF ⟨_,rfl,rfl,false,no_k (by decide),iteF ⟨_,rfl,rfl,false,no_k (by decide),iteF ⟨_,rfl,rfl,false,no_k (by decide),iteF ⟨_,rfl,rfl,false,no_k (by decide),iteF ⟨_,rfl,rfl,false,no_k (by decide),iteF ⟨_,rfl,rfl,false,no_k (by decide),iteF ⟨_,rfl,rfl,false,no_k (by decide),iteF ⟨(by show 2≤sizeLine; decide),fun u nu=>⟨(by show 1≤sizeLine; decide),fun l nl=>⟨_,rfl,_,rfl,a,_,_,_,rfl,rfl,((same_upd (Same.refl H) nu).trans (same_upd (Same.refl _) nl)).seq sq,atI_last [] v,.inr ⟨l,v,[.ref u],[(0,0)],rfl,.inr ⟨⟨SqL.of upd_same,.cons ⟨u,rfl,(same_upd (Same.refl _) nl) _ _ upd_same⟩ .nil,(by simp),(fun q hq=>by rw [List.mem_singleton] at hq; rw [hq]; exact bd00)⟩,p,hv.same ((same_upd (Same.refl H) nu).trans (same_upd (Same.refl _) nl)),no,sm⟩,fun H1 s1=>kE H1 (((same_upd (Same.refl H) nu).trans (same_upd (Same.refl _) nl)).trans s1)⟩⟩⟩⟩⟩⟩⟩⟩⟩⟩⟩⟩⟩⟩
   ·subst e; exact ⟨_,rfl,rfl,false,no_k (by decide),iteF ⟨_,rfl,rfl,false,no_k (by decide),iteF ⟨_,rfl,rfl,false,no_k (by decide),iteF ⟨_,rfl,rfl,false,no_k (by decide),iteF ⟨_,rfl,rfl,false,no_k (by decide),iteF ⟨_,rfl,rfl,true,is_k,iteT ⟨(by show 0≤sizeLine; decide),fun l nl=>⟨_,rfl,_,rfl,a,_,_,_,rfl,rfl,(same_upd (Same.refl H) nl).seq sq,atI_last [] v,.inr ⟨l,v,[],[],rfl,.inr ⟨⟨SqL.of upd_same,.nil,(by simp),(fun q hq=>absurd hq (by simp))⟩,p,hv.same (same_upd (Same.refl H) nl),no,sm⟩,fun H1 s1=>kE H1 ((same_upd (Same.refl H) nl).trans s1)⟩⟩⟩⟩⟩⟩⟩⟩⟩
def spTried (K:PySem.W.Frag):Sp:=fun vs H Q _=>∃ k a d,vs = [.int k,.ref a]∧((AskGood K H k a∧d = ("done":Str))∨(AskBad K H k a∧d = ("point":Str)))∧∀ H',Same H H'→Q (.str d) H'
abbrev n_sTried:List Str:=["which","points","e"]
theorem scTried:FnScope n_sTried ["which","points"] (defScope sTried):=⟨rfl,rfl,rfl,by decide +kernel,rfl,by decide +kernel,by decide +kernel⟩
theorem ok_tried {f g1 g2:Addr} {fd d1 d2:FuncData} (F:Fun K "_law_tried" "_law_tried" sTried f fd) (_:Txt mg) (X:Excs K mg cH cP cS cF cM cN)
  (R:FnOk P w K mg base (CXE P w) 6 g1 d1 ["which","points"] (spAsk K cP)) (b1:Binds K d1 ["which","points"] []) (k1:PySem.W.keepIn K (.ref g1) = true) (m1:mg "_law_asked" = some (.ref g1))
  (Kd:FnOkH P w K mg base 1 g2 d2 ["e"] (spKind K cH cP cS cF cM cN)) (b2:Binds K d2 ["e"] []) (k2:PySem.W.keepIn K (.ref g2) = true) (m2:mg "_law_kind" = some (.ref g2)) :
  FnOk P w K mg base CX0 7 f fd ["which","points"] (spTried K):=by
 refine F.ok scTried (fun vs H Q E h=>?_) (fun cdv A outer s H vs Q E hr h=>?_)
 ·obtain ⟨k,a,d,rfl,_⟩:=h; rfl
 ·obtain ⟨k,a,d,rfl,du,kk⟩:=h
  have hr1:Room 1 _:=hr.mono (by decide)
  refine ⟨_,pss_cons (ps_tryE (i:=2) (CH:=cH) (Mt:=fun c=>∃ j,KindIs K cH cP cS cF cM cN c j) (fun kin c ⟨_,o⟩=>o.ok.catches kin) rfl rfl rfl
    (fun E' pn' xe' hp=>pss_one (ps_expr (pe_call R hr rfl m1 k1 b1 .nil hp (pa_cons (pv 0) (pa_cons (pv 1) pa_nil)))))
    rfl X.mH scTried.nd rfl rfl (fun a=>pss_one (ps_ret (pe_callH Kd (hr1.h.mark _) rfl m2 k2 b2 (pa_cons (pv 2) pa_nil)))))
   (pss_one (ps_ret pe_str)),?_⟩
  refine ⟨_,rfl,_,rfl,k,a,rfl,?_⟩
  rcases du with ⟨g,e⟩ | ⟨b,e⟩
  ·exact .inl ⟨g,fun v H1 s1=>by rw [e] at kk; exact kk H1 s1⟩
  ·refine .inr ⟨b,fun H1 s1=>⟨⟨cP,rfl,0,X.isP⟩,fun σ' y ly ny=>?_⟩⟩
   have ly':σ'.length = 3:=ly
   refine ⟨_,List.getElem?_set_self (by omega),y,cP,0,rfl,upd_same,X.isP,fun H2 s2=>?_⟩
   rw [e] at kk
   exact kk H2 (s1.trans ((same_upd (Same.refl H1) ny).trans s2))
def spLaw (K:PySem.W.Frag):Sp:=fun vs H Q _=>∃ (a:Addr) (ns:List Int),vs = [.ref a]∧SqL K H a (ns.map V.int)∧ns.length≤63∧∀ H',Q (.bl true) H'
abbrev n_sLaw:List Str:=["script","points","cell","bad","which","edge"]
theorem scL:FnScope n_sLaw ["script"] (defScope sLaw):=⟨rfl,rfl,rfl,by decide +kernel,rfl,by decide +kernel,by decide +kernel⟩
theorem str_ne (d:Str):V.bl (!decide (V.str d = V.str d)) = V.bl false:=by rw [decide_eq_true rfl]; rfl
theorem edge_bd:∀ q ∈ ([(1000,-1000),(-1000,1000),(1000,1000)]:List Pt),Bd q:=by
 intro q hq
 simp only [List.mem_cons,List.not_mem_nil,or_false] at hq
 rcases hq with e | e | e <;> rw [e] <;> exact ⟨by decide,by decide,by decide,by decide⟩
theorem ask_of_nat {H:Hp} {a:Addr} {i:Nat} {xs:List V} {ps:List Pt} (h:i < 8) (b:BadL K H a xs ps):AskBad K H (0+(i:Int)) a:=by
 refine .inl ⟨?_,xs,ps,b⟩
 omega
set_option maxHeartbeats 0 in
theorem ok_law {f g1 g2 g3 g4:Addr} {fd d1 d2 d3 d4:FuncData} (F:Fun K "law" "law" sLaw f fd) (T:Txt mg)
  (N:FnOk P w K mg base CX0 2 g1 d1 ["script","at","most"] (spPts K)) (b1:Binds K d1 ["script","at","most"] []) (k1:PySem.W.keepIn K (.ref g1) = true) (m1:mg "_law_points" = some (.ref g1))
  (C:FnOk P w K mg base CX0 1 g2 d2 ["script","k"] (spCell K)) (b2:Binds K d2 ["script","k"] []) (k2:PySem.W.keepIn K (.ref g2) = true) (m2:mg "_law_cell_at" = some (.ref g2))
  (B:FnOk P w K mg base CX0 1 g3 d3 ["points","cell"] (spLBad K)) (b3:Binds K d3 ["points","cell"] []) (k3:PySem.W.keepIn K (.ref g3) = true) (m3:mg "_law_bad" = some (.ref g3))
  (R:FnOk P w K mg base CX0 7 g4 d4 ["which","points"] (spTried K)) (b4:Binds K d4 ["which","points"] []) (k4:PySem.W.keepIn K (.ref g4) = true) (m4:mg "_law_tried" = some (.ref g4)) :
  FnOk P w K mg base CX0 8 f fd ["script"] (spLaw K):=by
 refine F.ok scL (fun vs H Q E h=>?_) (fun cdv A outer s H vs Q E hr h=>?_)
 ·obtain ⟨a,ns,rfl,_⟩:=h; rfl
 ·obtain ⟨a,ns,rfl,hq,hl,k⟩:=h
  have hr2:Room 2 _:=hr.mono (by decide)
  have hr1:Room 1 _:=hr.mono (by decide)
  have REST0:∃ t,PSs (cxOf CX0 P w K mg base n_sLaw "law" (defScope sLaw) f cdv A outer s H E).nox (List.drop 6 (defBody sLaw)) t ∧
    ∀ (H1:Hp) (r:Addr) (zs:List V) (ps:List Pt) (v2 v3 v4:Option V),H1 r = some (.lst zs)→ArePts H1 zs ps→ps.length≤12→(∀ q ∈ ps,Bd q) →
     t { nx:=fun _ H'=>Q .non H',rt:=Q } [some (.ref a),some (.ref r),v2,v3,v4,none] H1:=by
   refine ⟨_,pss_cons (ps_set (i:=5) scL.nd rfl (Or.inl rfl) (pe_lst (pa_cons (pe_tup (pa_cons pe_int (pa_cons (pe_un un_neg pe_int) pa_nil))) (pa_cons (pe_tup (pa_cons (pe_un un_neg pe_int) (pa_cons pe_int pa_nil))) (pa_cons (pe_tup (pa_cons pe_int (pa_cons pe_int pa_nil))) pa_nil)))))
    (pss_cons (ps_for PassesOwn.never rfl (pi_list (pe_lst (pa_cons pe_int (pa_cons pe_int (pa_cons pe_int (pa_cons pe_int (pa_cons pe_int (pa_cons pe_int pa_nil)))))))) (pg_name (i:=4) scL.nd rfl (Or.inl rfl))
     (pss_one (ps_if (pt_cmpR op_ne (pe_call R hr rfl m4 k4 b4 .nil pass0 (pa_cons (pv 4) (pa_cons (pe_op op_cat (pe_op op_cat (pe_lst (pa_cons (pe_tup (pa_cons pe_int (pa_cons pe_int pa_nil))) pa_nil)) (pe_slice sl_list (pv 1) po_none (po_some pe_int))) (pv 5)) pa_nil))) pe_str (nomark _)) (pss_one (ps_ret pe_bl)) pss_nil)))
    (pss_one (ps_ret (pe_cmpR op_eq (pe_call R hr rfl m4 k4 b4 .nil pass0 (pa_cons pe_int (pa_cons (pv 5) pa_nil))) pe_str (nomark _))))),?_⟩
   intro H1 r zs ps v2 v3 v4 h1 p1 lp bd
   have lz:=p1.length
   refine ⟨_,rfl,(by show 2≤sizeLine; decide),fun e1 n1=>⟨_,rfl,(by show 2≤sizeLine; decide),fun e2 n2=>⟨(by show 2≤sizeLine; decide),fun e3 n3=>⟨(by show 3≤sizeLine; decide),fun e n4=>?_⟩⟩⟩⟩
   have s1:=same_upd (o:=.tup [.int 1000,.int (-1000)]) (Same.refl H1) n1
   have s2:=same_upd (o:=.tup [.int (-1000),.int 1000]) (Same.refl (upd H1 e1 (.tup [.int 1000,.int (-1000)]))) n2
   have s3:=same_upd (o:=.tup [.int 1000,.int 1000]) (Same.refl (upd (upd H1 e1 (.tup [.int 1000,.int (-1000)])) e2 (.tup [.int (-1000),.int 1000]))) n3
   have s4:=same_upd (o:=.lst [.ref e1,.ref e2,.ref e3]) (Same.refl (upd (upd (upd H1 e1 (.tup [.int 1000,.int (-1000)])) e2 (.tup [.int (-1000),.int 1000])) e3 (.tup [.int 1000,.int 1000]))) n4
   have pe:ArePts (upd (upd (upd (upd H1 e1 (.tup [.int 1000,.int (-1000)])) e2 (.tup [.int (-1000),.int 1000])) e3 (.tup [.int 1000,.int 1000])) e (.lst [.ref e1,.ref e2,.ref e3])) [.ref e1,.ref e2,.ref e3] [(1000,-1000),(-1000,1000),(1000,1000)] :=
    .cons ⟨e1,rfl,(s2.trans (s3.trans s4)) _ _ upd_same⟩ (.cons ⟨e2,rfl,(s3.trans s4) _ _ upd_same⟩ (.cons ⟨e3,rfl,s4 _ _ upd_same⟩ .nil))
   have he:(upd (upd (upd (upd H1 e1 (.tup [.int 1000,.int (-1000)])) e2 (.tup [.int (-1000),.int 1000])) e3 (.tup [.int 1000,.int 1000])) e (.lst [.ref e1,.ref e2,.ref e3])) e = some (.lst [.ref e1,.ref e2,.ref e3]):=upd_same
   have s14:=s1.trans (s2.trans (s3.trans s4))
   generalize (upd (upd (upd (upd H1 e1 (.tup [.int 1000,.int (-1000)])) e2 (.tup [.int (-1000),.int 1000])) e3 (.tup [.int 1000,.int 1000])) e (.lst [.ref e1,.ref e2,.ref e3])) = H4 at *
   have h4:=s14 _ _ h1
   have p4:=p1.same s14
   clear s1 s2 s3 s4 n1 n2 n3 n4
   refine ⟨(by show 6≤sizeLine; decide),fun l nl=>?_⟩
   have s5:=same_upd (o:=.lst [.int 0,.int 1,.int 2,.int 3,.int 7,.int 8]) (Same.refl H4) nl
   have hl5:(upd H4 l (.lst [.int 0,.int 1,.int 2,.int 3,.int 7,.int 8])) l = some (.lst [.int 0,.int 1,.int 2,.int 3,.int 7,.int 8]):=upd_same
   generalize (upd H4 l (.lst [.int 0,.int 1,.int 2,.int 3,.int 7,.int 8])) = H5 at *
   refine ⟨l,rfl,⟨_,SqL.of hl5⟩,for_list (K:=K) (a:=l) (xs:=[.int 0,.int 1,.int 2,.int 3,.int 7,.int 8]) (fun i σ H2=>∃ v,σ = [some (.ref a),some (.ref r),v2,v3,v,some (.ref e)]∧Same H5 H2) ⟨v4,rfl,Same.refl H5⟩ (fun i σ H2 _ ⟨_,_,s6⟩=>s6.seq (SqL.of hl5)) ?_ ?_⟩
   ·rintro i x σ H2 hi ⟨v,rfl,s6⟩
    obtain ⟨j,rfl,hj⟩:∃ j:Int,x = .int j∧(j = 0∨j = 1∨j = 2∨j = 3∨j = 7∨j = 8):=by
     have:=List.mem_of_getElem? hi
     simp only [List.mem_cons,List.not_mem_nil,or_false] at this
     rcases this with z | z | z | z | z | z <;> exact ⟨_,z,by omega⟩
    have s46:=s5.trans s6
    have h6:=s46 _ _ h4
    have p6:=p4.same s46
    have e6:=s46 _ _ he
    have pe6:=pe.same s46
    refine ⟨_,rfl,(by show 2≤sizeLine; decide),fun u nu=>⟨(by show 1≤sizeLine; decide),fun l1 n1=>⟨_,rfl,_,rfl,r,_,rfl,SqL.of (((same_upd (Same.refl H2) nu).trans (same_upd (Same.refl _) n1)) _ _ h6),fun l2 n2=>?_⟩⟩⟩
    have s7:=same_upd (o:=.tup [.int 0,.int 0]) (Same.refl H2) nu
    have s8:=same_upd (o:=.lst [.ref u]) (Same.refl (upd H2 u (.tup [.int 0,.int 0]))) n1
    have e8:cutV zs none (some 8) = zs.take 8:=cut_to zs 8
    rw [e8]
    have pu:ArePts (upd (upd H2 u (.tup [.int 0,.int 0])) l1 (.lst [.ref u])) [.ref u] [(0,0)]:=.cons ⟨u,rfl,s8 _ _ upd_same⟩ .nil
    have h8:(upd (upd H2 u (.tup [.int 0,.int 0])) l1 (.lst [.ref u])) l1 = some (.lst [.ref u]):=upd_same
    have s28:=s7.trans s8
    generalize (upd (upd H2 u (.tup [.int 0,.int 0])) l1 (.lst [.ref u])) = H8 at *
    have s9:=same_upd (o:=.lst (zs.take 8)) (Same.refl H8) n2
    have h9:(upd H8 l2 (.lst (zs.take 8))) l2 = some (.lst (zs.take 8)):=upd_same
    have h89:=s9 _ _ h8
    generalize (upd H8 l2 (.lst (zs.take 8))) = H9 at *
    refine ⟨l1,l2,_,_,rfl,rfl,h89,h9,Nat.le_of_lt (small1000 (by rw [List.length_take]; show 1+_≤1000; omega)),fun l3 n3=>?_⟩
    have s10:=same_upd (o:=.lst ([.ref u]++zs.take 8)) (Same.refl H9) n3
    have h10:(upd H9 l3 (.lst ([.ref u]++zs.take 8))) l3 = some (.lst ([.ref u]++zs.take 8)):=upd_same
    generalize (upd H9 l3 (.lst ([.ref u]++zs.take 8))) = H10 at *
    have sX:=s28.trans (s9.trans s10)
    refine ⟨_,rfl,l3,e,_,_,rfl,rfl,h10,sX _ _ e6,Nat.le_of_lt (small1000 (by rw [List.length_append,List.length_take]; show 1+_+3≤1000; omega)),fun l4 n4=>?_⟩
    have s11:=same_upd (o:=.lst ([.ref u]++zs.take 8++[.ref e1,.ref e2,.ref e3])) (Same.refl H10) n4
    have sY:=sX.trans s11
    have good:AskGood K (upd H10 l4 (.lst ([.ref u]++zs.take 8++[.ref e1,.ref e2,.ref e3]))) j l4:=by
     refine ⟨hj,_,[(0,0)]++ps.take 8++[(1000,-1000),(-1000,1000),(1000,1000)],⟨SqL.of upd_same,Pair.append (Pair.append (pu.same (s9.trans (s10.trans s11))) (Pair.take 8 (p6.same sY))) (pe6.same sY),?_,?_⟩,?_⟩
     ·rw [List.length_append,List.length_append,List.length_take]; show 1+_+3≤12; omega
     ·intro q hq
      rcases List.mem_append.mp hq with hq | hq
      ·rcases List.mem_append.mp hq with hq | hq
       ·rw [List.mem_singleton] at hq; rw [hq]; exact bd00
       ·exact bd q (List.mem_of_mem_take hq)
      ·exact edge_bd q hq
     ·rw [List.length_append,List.length_append]; show 0 < 1+_+3; omega
    refine ⟨j,l4,"done",rfl,.inl ⟨good,rfl⟩,fun H12 s12=>⟨rfl,false,str_ne _,iteF ⟨_,rfl,s6.trans (sY.trans s12)⟩⟩⟩
   ·rintro σ H2 ⟨v,rfl,s6⟩
    have s46:=s5.trans s6
    refine ⟨_,rfl,8,e,"done",rfl,.inl ⟨⟨by omega,_,_,⟨s46.seq (SqL.of he),pe.same s46,by show 3≤12; decide,edge_bd⟩,by show 0 < 3; decide⟩,rfl⟩,fun H3 s7=>⟨rfl,?_⟩⟩
    rw [decide_eq_true rfl]
    exact k H3
  obtain ⟨tR0,hR0,rest0⟩:=REST0
  have REST:∃ t,PSs (cxOf CX0 P w K mg base n_sLaw "law" (defScope sLaw) f cdv A outer s H E).nox (List.drop 4 (defBody sLaw)) t ∧
    ∀ (H1:Hp) (r b:Addr) (zs xs:List V) (ps qs:List Pt) (c:Int) (v4:Option V),H1 r = some (.lst zs)→ArePts H1 zs ps→ps.length≤12→(∀ q ∈ ps,Bd q)→BadL K H1 b xs qs→0≤c→c < 1000000000000000000000000 →
     t { nx:=fun _ H'=>Q .non H',rt:=Q } [some (.ref a),some (.ref r),some (.int c),some (.ref b),v4,none] H1:=by
   refine ⟨_,pss_cons (ps_if (PW.pt (pw_or (pt_cmpR op_ne (pe_call R hr rfl m4 k4 b4 .nil pass0 (pa_cons pe_int (pa_cons (pe_lst (pa_cons (pe_tup (pa_cons (pe_op op_add pe_int (pe_op op_fdiv (pv 2) pe_int)) (pa_cons pe_int pa_nil))) pa_nil)) pa_nil))) pe_str (nomark _))
     (pw_or1 (pt_cmpR op_ne (pe_call R hr rfl m4 k4 b4 .nil pass0 (pa_cons pe_int (pa_cons (pe_lst (pa_cons (pe_tup (pa_cons pe_int (pa_cons (pe_un un_neg pe_int) pa_nil))) pa_nil)) pa_nil))) pe_str (nomark _))))) (pss_one (ps_ret pe_bl)) pss_nil)
    (pss_cons (ps_if (PW.pt (pw_or (pt_cmpR op_ne (pe_call R hr rfl m4 k4 b4 .nil pass0 (pa_cons pe_int (pa_cons (pe_callTy call_list_of rfl T.list PyProof.Rows.boot_list (pa_cons (pv 3) pa_nil)) pa_nil))) pe_str (nomark _))
     (pw_or1 (pt_cmpR op_ne (pe_call R hr rfl m4 k4 b4 .nil pass0 (pa_cons pe_int (pa_cons (pe_lst (pa_cons (pe_tup (pa_cons pe_int (pa_cons (pe_op op_add pe_int (pe_op op_fdiv (pv 2) pe_int)) pa_nil))) pa_nil)) pa_nil))) pe_str (nomark _))))) (pss_one (ps_ret pe_bl)) pss_nil)
    hR0),?_⟩
   intro H1 r b zs xs ps qs c v4 h1 p1 lp bd hb c0 c1
   have off:Off (1001+c / 64):=⟨by omega,by omega⟩
   have offM:Off (-1001):=⟨by omega,by decide⟩
   refine ⟨_,rfl,_,_,rfl,rfl,⟨by decide,by decide⟩,_,_,rfl,rfl,(by show 2≤sizeLine; decide),fun t n1=>⟨(by show 1≤sizeLine; decide),fun l n2=>?_⟩⟩
   have s1:=same_upd (o:=.tup [.int (1001+c / 64),.int 0]) (Same.refl H1) n1
   have s2:=same_upd (o:=.lst [.ref t]) (Same.refl (upd H1 t (.tup [.int (1001+c / 64),.int 0]))) n2
   refine ⟨8,l,"point",rfl,.inr ⟨.inr ⟨.inl rfl,.ref t,(1001+c / 64,0),SqL.of upd_same,⟨t,rfl,s2 _ _ upd_same⟩,off_left off⟩,rfl⟩,fun H2 s3=>⟨rfl,false,str_ne _,iteF ?_⟩⟩
   have s12:=s1.trans (s2.trans s3)
   have h2:=s12 _ _ h1
   have p2:=p1.same s12
   have hb2:=hb.same s12
   clear s1 s2 s3 s12 n1 n2 h1 p1 hb
   refine ⟨_,rfl,(by show 2≤sizeLine; decide),fun t n1=>⟨(by show 1≤sizeLine; decide),fun l n2=>?_⟩⟩
   have s1:=same_upd (o:=.tup [.int 0,.int (-1001)]) (Same.refl H2) n1
   have s2:=same_upd (o:=.lst [.ref t]) (Same.refl (upd H2 t (.tup [.int 0,.int (-1001)]))) n2
   refine ⟨8,l,"point",rfl,.inr ⟨.inr ⟨.inl rfl,.ref t,(0,-1001),SqL.of upd_same,⟨t,rfl,s2 _ _ upd_same⟩,off_right offM⟩,rfl⟩,fun H3 s3=>⟨rfl,false,str_ne _,iteF ?_⟩⟩
   have s12:=s1.trans (s2.trans s3)
   have h3:=s12 _ _ h2
   have p3:=p2.same s12
   have hb3:=hb2.same s12
   clear s1 s2 s3 s12 n1 n2 h2 p2 hb2
   refine ⟨_,rfl,b,xs,rfl,.inl hb3.sq,fun d nd=>?_⟩
   have s1:=same_upd (o:=.lst xs) (Same.refl H3) nd
   refine ⟨9,d,"point",rfl,.inr ⟨.inl ⟨by omega,xs,qs,⟨SqL.of upd_same,hb3.pts.same s1,hb3.bad⟩⟩,rfl⟩,fun H4 s3=>⟨rfl,false,str_ne _,iteF ?_⟩⟩
   have s12:=s1.trans s3
   have h4:=s12 _ _ h3
   have p4:=p3.same s12
   clear s1 s3 s12 nd h3 p3 hb3
   refine ⟨_,rfl,_,_,rfl,rfl,⟨by decide,by decide⟩,_,_,rfl,rfl,(by show 2≤sizeLine; decide),fun t n1=>⟨(by show 1≤sizeLine; decide),fun l n2=>?_⟩⟩
   have s1:=same_upd (o:=.tup [.int 0,.int (1001+c / 64)]) (Same.refl H4) n1
   have s2:=same_upd (o:=.lst [.ref t]) (Same.refl (upd H4 t (.tup [.int 0,.int (1001+c / 64)]))) n2
   refine ⟨10,l,"point",rfl,.inr ⟨.inr ⟨.inr rfl,.ref t,(0,1001+c / 64),SqL.of upd_same,⟨t,rfl,s2 _ _ upd_same⟩,off_right off⟩,rfl⟩,fun H5 s3=>⟨rfl,false,str_ne _,iteF ?_⟩⟩
   have s12:=s1.trans (s2.trans s3)
   exact rest0 H5 r zs ps _ _ _ (s12 _ _ h4) (p4.same s12) lp bd
  obtain ⟨tR,hR,rest⟩:=REST
  refine ⟨_,pss_cons (ps_set (i:=1) scL.nd rfl (Or.inl rfl) (pe_call N hr2 rfl m1 k1 b1 .nil pass0 (pa_cons (pv 0) (pa_cons pe_int (pa_cons pe_int pa_nil)))))
   (pss_cons (ps_set (i:=2) scL.nd rfl (Or.inl rfl) (pe_op op_mod (pe_call C hr1 rfl m2 k2 b2 .nil pass0 (pa_cons (pv 0) (pa_cons pe_int pa_nil))) (pe_op op_pow pe_int pe_int)))
   (pss_cons (ps_set (i:=3) scL.nd rfl (Or.inl rfl) (pe_call B hr1 rfl m3 k3 b3 .nil pass0 (pa_cons (pv 1) (pa_cons (pv 2) pa_nil))))
   (pss_cons (ps_for PassesOwn.never rfl (pi_range1 rfl T.range (pa_cons pe_int pa_nil)) (pg_name (i:=4) scL.nd rfl (Or.inl rfl))
     (pss_one (ps_if (pt_cmpR op_ne (pe_call R hr rfl m4 k4 b4 .nil pass0 (pa_cons (pv 4) (pa_cons (pe_callTy call_list_of rfl T.list PyProof.Rows.boot_list (pa_cons (pv 3) pa_nil)) pa_nil))) pe_str (nomark _)) (pss_one (ps_ret pe_bl)) pss_nil)))
   hR))),?_⟩
  refine ⟨_,rfl,a,ns,0,12,rfl,hq,by decide,by decide,by decide,fun r zs ps H1 n1 s1 h1 p1 _ l1 bd=>?_⟩
  have lp:ps.length≤12:=by omega
  have e24:(10:Int) ^ (24:Int).toNat = 1000000000000000000000000:=by decide
  refine ⟨_,rfl,a,ns,11,rfl,s1.seq hq,by decide,fun z0 _=>⟨_,_,rfl,rfl,⟨by decide,by decide,by decide⟩,_,_,rfl,rfl,(by rw [e24]; show (0:Int) < 1000000000000000000000000; decide),?_⟩⟩
  rw [e24]
  have c0:=Int.emod_nonneg z0 (show (1000000000000000000000000:Int) ≠ 0 by decide)
  have c1:=Int.emod_lt_of_pos z0 (show (0:Int) < 1000000000000000000000000 by decide)
  refine ⟨_,rfl,_,rfl,r,zs,ps,_,rfl,h1,p1,lp,bd,c0,fun b xs qs H2 s2 h2 hb=>?_⟩
  have hr0:=s2 _ _ h1
  have p2:=p1.same s2
  refine ⟨8,rfl,by decide,by decide,?_⟩
  refine for_range (n:=8) (fun i σ H3=>∃ v,σ = [some (.ref a),some (.ref r),some (.int (z0 % 1000000000000000000000000)),some (.ref b),v,none]∧Same H2 H3) ⟨none,rfl,Same.refl H2⟩ ?_ ?_
  ·rintro i σ H3 hi ⟨v,rfl,s3⟩
   refine ⟨_,rfl,_,rfl,b,xs,rfl,.inl (s3.seq hb.sq),fun d nd=>?_⟩
   have s4:=same_upd (o:=.lst xs) (Same.refl H3) nd
   refine ⟨0+(i:Int),d,"point",rfl,.inr ⟨ask_of_nat hi ⟨SqL.of upd_same,hb.pts.same (s3.trans s4),hb.bad⟩,rfl⟩,fun H5 s5=>⟨rfl,false,str_ne _,iteF ⟨_,rfl,s3.trans (s4.trans s5)⟩⟩⟩
  ·rintro σ H3 ⟨v,rfl,s3⟩
   exact rest H3 r b zs xs ps qs _ v (s3 _ _ hr0) (p2.same s3) lp bd (hb.same s3) c0 c1
end
end Toy
set_option Elab.async false
set_option maxRecDepth 100000
namespace Toy
open PySem L2 Geo
set_option maxHeartbeats 0 in
theorem all_mk {l:PySem.W.OpenLaw} {w:World} {K:PySem.W.Frag} {h:Heap} {mg:Str→Option Value} {fa f1 f2 f3 f4 f5 f6 f7 f8 f9 f10 f11 f12 f13 f14 f15 f16 f17 f18 f19 f20 f21 f22 f23 f24 f25 f26 f27 f28 f29 f30 f31 f32 f33 f34 f35 f36 f37 f38 f39 f40 f41 f42 f43 f44:Addr} (X:K.In h) (G:h.Ns mainGlobals mg) (hfa:mg "law" = some (.ref fa))
    {od1 an1 od2 an2 od3 an3 od4 an4 od5 an5 od6 an6 od7 an7 od8 an8 od9 an9 od10 an10 od11 an11 od12 an12 od13 an13 od14 an14 od15 an15 od16 an16 od17 an17 od18 an18 od19 an19 od20 an20 od21 an21 od22 an22 od23 an23 od24 an24 od25 an25 od26 an26 od27 an27 od28 an28 od29 an29 od30 an30 od31 an31 od32 an32 od33 an33 od34 an34 od35 an35 od36 an36 od37 an37 od38 an38 od39 an39 od40 an40 od41 an41 od42 an42 od43 an43 od44 an44:Option Addr} {sl1 sl2 sl3 sl4 sl5 sl6 sl7 sl8 sl9 sl10 sl11 sl12 sl13 sl14 sl15 sl16 sl17 sl18 sl19 sl20 sl21 sl22 sl23 sl24 sl25 sl26 sl27 sl28 sl29 sl30 sl31 sl32 sl33 sl34 sl35 sl36 sl37 sl38 sl39 sl40 sl41 sl42 sl43 sl44:Array (Option Value)} {oc1 kV1 dc1 pm1 cd1 ct1 oc2 kV2 dc2 pm2 cd2 ct2 oc3 kV3 dc3 pm3 cd3 ct3 oc4 kV4 dc4 pm4 cd4 ct4 oc5 kV5 dc5 pm5 cd5 ct5 oc6 kV6 dc6 pm6 cd6 ct6 oc7 kV7 dc7 pm7 cd7 ct7 oc8 kV8 dc8 pm8 cd8 ct8 oc9 kV9 dc9 pm9 cd9 ct9 oc10 kV10 dc10 pm10 cd10 ct10 oc11 kV11 dc11 pm11 cd11 ct11 oc12 kV12 dc12 pm12 cd12 ct12 oc13 kV13 dc13 pm13 cd13 ct13 oc14 kV14 dc14 pm14 cd14 ct14 oc15 kV15 dc15 pm15 cd15 ct15 oc16 kV16 dc16 pm16 cd16 ct16 oc17 kV17 dc17 pm17 cd17 ct17 oc18 kV18 dc18 pm18 cd18 ct18 oc19 kV19 dc19 pm19 cd19 ct19 oc20 kV20 dc20 pm20 cd20 ct20 oc21 kV21 dc21 pm21 cd21 ct21 oc22 kV22 dc22 pm22 cd22 ct22 oc23 kV23 dc23 pm23 cd23 ct23 oc24 kV24 dc24 pm24 cd24 ct24 oc25 kV25 dc25 pm25 cd25 ct25 oc26 kV26 dc26 pm26 cd26 ct26 oc27 kV27 dc27 pm27 cd27 ct27 oc28 kV28 dc28 pm28 cd28 ct28 oc29 kV29 dc29 pm29 cd29 ct29 oc30 kV30 dc30 pm30 cd30 ct30 oc31 kV31 dc31 pm31 cd31 ct31 oc32 kV32 dc32 pm32 cd32 ct32 oc33 kV33 dc33 pm33 cd33 ct33 oc34 kV34 dc34 pm34 cd34 ct34 oc35 kV35 dc35 pm35 cd35 ct35 oc36 kV36 dc36 pm36 cd36 ct36 oc37 kV37 dc37 pm37 cd37 ct37 oc38 kV38 dc38 pm38 cd38 ct38 oc39 kV39 dc39 pm39 cd39 ct39 oc40 kV40 dc40 pm40 cd40 ct40 oc41 kV41 dc41 pm41 cd41 ct41 oc42 kV42 dc42 pm42 cd42 ct42 oc43 kV43 dc43 pm43 cd43 ct43 oc44 kV44 dc44 pm44 cd44 ct44:Value} {tk1 tk2:Tok}
    (a1:PySem.W.nsIn K mainGlobals "check_point" = some (some (.ref f1))) (l1:K.lookup f1 = some ⟨oc1,od1,.func (PySem.W.fnOf "check_point" "check_point" (defArgs sChk) (defBody sChk) (defScope sChk) .none kV1 dc1 pm1 an1 cd1 ct1),sl1⟩) (c1:PySem.W.codeIn K cd1 "check_point" = true) (k1:PySem.W.keepIn K (.ref f1) = true)
    (a2:PySem.W.nsIn K mainGlobals "check_points" = some (some (.ref f2))) (l2:K.lookup f2 = some ⟨oc2,od2,.func (PySem.W.fnOf "check_points" "check_points" (defArgs sChks) (defBody sChks) (defScope sChks) .none kV2 dc2 pm2 an2 cd2 ct2),sl2⟩) (c2:PySem.W.codeIn K cd2 "check_points" = true) (k2:PySem.W.keepIn K (.ref f2) = true)
    (a3:PySem.W.nsIn K mainGlobals "check_spot" = some (some (.ref f3))) (l3:K.lookup f3 = some ⟨oc3,od3,.func (PySem.W.fnOf "check_spot" "check_spot" (defArgs sCkSpot) (defBody sCkSpot) (defScope sCkSpot) .none kV3 dc3 pm3 an3 cd3 ct3),sl3⟩) (c3:PySem.W.codeIn K cd3 "check_spot" = true) (k3:PySem.W.keepIn K (.ref f3) = true)
    (a4:PySem.W.nsIn K mainGlobals "turn" = some (some (.ref f4))) (l4:K.lookup f4 = some ⟨oc4,od4,.func (PySem.W.fnOf "turn" "turn" (defArgs sTurn) (defBody sTurn) (defScope sTurn) .none kV4 dc4 pm4 an4 cd4 ct4),sl4⟩) (c4:PySem.W.codeIn K cd4 "turn" = true) (k4:PySem.W.keepIn K (.ref f4) = true)
    (a5:PySem.W.nsIn K mainGlobals "reach" = some (some (.ref f5))) (l5:K.lookup f5 = some ⟨oc5,od5,.func (PySem.W.fnOf "reach" "reach" (defArgs sReach) (defBody sReach) (defScope sReach) .none kV5 dc5 pm5 an5 cd5 ct5),sl5⟩) (c5:PySem.W.codeIn K cd5 "reach" = true) (k5:PySem.W.keepIn K (.ref f5) = true)
    (a6:PySem.W.nsIn K mainGlobals "worth" = some (some (.ref f6))) (l6:K.lookup f6 = some ⟨oc6,od6,.func (PySem.W.fnOf "worth" "worth" (defArgs sWorth) (defBody sWorth) (defScope sWorth) .none kV6 dc6 pm6 an6 cd6 ct6),sl6⟩) (c6:PySem.W.codeIn K cd6 "worth" = true) (k6:PySem.W.keepIn K (.ref f6) = true)
    (a7:PySem.W.nsIn K mainGlobals "line_along" = some (some (.ref f7))) (l7:K.lookup f7 = some ⟨oc7,od7,.func (PySem.W.fnOf "line_along" "line_along" (defArgs sAlong) (defBody sAlong) (defScope sAlong) .none kV7 dc7 pm7 an7 cd7 ct7),sl7⟩) (c7:PySem.W.codeIn K cd7 "line_along" = true) (k7:PySem.W.keepIn K (.ref f7) = true)
    (a8:PySem.W.nsIn K mainGlobals "line_across" = some (some (.ref f8))) (l8:K.lookup f8 = some ⟨oc8,od8,.func (PySem.W.fnOf "line_across" "line_across" (defArgs sAcross) (defBody sAcross) (defScope sAcross) .none kV8 dc8 pm8 an8 cd8 ct8),sl8⟩) (c8:PySem.W.codeIn K cd8 "line_across" = true) (k8:PySem.W.keepIn K (.ref f8) = true)
    (a9:PySem.W.nsIn K mainGlobals "greatest_divisor" = some (some (.ref f9))) (l9:K.lookup f9 = some ⟨oc9,od9,.func (PySem.W.fnOf "greatest_divisor" "greatest_divisor" (defArgs sGcd) (defBody sGcd) (defScope sGcd) .none kV9 dc9 pm9 an9 cd9 ct9),sl9⟩) (c9:PySem.W.codeIn K cd9 "greatest_divisor" = true) (k9:PySem.W.keepIn K (.ref f9) = true)
    (a10:PySem.W.nsIn K mainGlobals "lowest" = some (some (.ref f10))) (l10:K.lookup f10 = some ⟨oc10,od10,.func (PySem.W.fnOf "lowest" "lowest" (defArgs sLowest) (defBody sLowest) (defScope sLowest) .none kV10 dc10 pm10 an10 cd10 ct10),sl10⟩) (c10:PySem.W.codeIn K cd10 "lowest" = true) (k10:PySem.W.keepIn K (.ref f10) = true)
    (a11:PySem.W.nsIn K mainGlobals "weighing" = some (some (.ref f11))) (l11:K.lookup f11 = some ⟨oc11,od11,.func (PySem.W.fnOf "weighing" "weighing" (defArgs sWeigh) (defBody sWeigh) (defScope sWeigh) .none kV11 dc11 pm11 an11 cd11 ct11),sl11⟩) (c11:PySem.W.codeIn K cd11 "weighing" = true) (k11:PySem.W.keepIn K (.ref f11) = true)
    (a12:PySem.W.nsIn K mainGlobals "corners" = some (some (.ref f12))) (l12:K.lookup f12 = some ⟨oc12,od12,.func (PySem.W.fnOf "corners" "corners" (defArgs sCor) (defBody sCor) (defScope sCor) .none kV12 dc12 pm12 an12 cd12 ct12),sl12⟩) (c12:PySem.W.codeIn K cd12 "corners" = true) (k12:PySem.W.keepIn K (.ref f12) = true)
    (a13:PySem.W.nsIn K mainGlobals "placed" = some (some (.ref f13))) (l13:K.lookup f13 = some ⟨oc13,od13,.func (PySem.W.fnOf "placed" "placed" (defArgs sPlaced) (defBody sPlaced) (defScope sPlaced) .none kV13 dc13 pm13 an13 cd13 ct13),sl13⟩) (c13:PySem.W.codeIn K cd13 "placed" = true) (k13:PySem.W.keepIn K (.ref f13) = true)
    (a14:PySem.W.nsIn K mainGlobals "corners_round" = some (some (.ref f14))) (l14:K.lookup f14 = some ⟨oc14,od14,.func (PySem.W.fnOf "corners_round" "corners_round" (defArgs sRnd) (defBody sRnd) (defScope sRnd) .none kV14 dc14 pm14 an14 cd14 ct14),sl14⟩) (c14:PySem.W.codeIn K cd14 "corners_round" = true) (k14:PySem.W.keepIn K (.ref f14) = true)
    (a15:PySem.W.nsIn K mainGlobals "side_of" = some (some (.ref f15))) (l15:K.lookup f15 = some ⟨oc15,od15,.func (PySem.W.fnOf "side_of" "side_of" (defArgs sSide) (defBody sSide) (defScope sSide) .none kV15 dc15 pm15 an15 cd15 ct15),sl15⟩) (c15:PySem.W.codeIn K cd15 "side_of" = true) (k15:PySem.W.keepIn K (.ref f15) = true)
    (a16:PySem.W.nsIn K mainGlobals "shutting_line" = some (some (.ref f16))) (l16:K.lookup f16 = some ⟨oc16,od16,.func (PySem.W.fnOf "shutting_line" "shutting_line" (defArgs sShut) (defBody sShut) (defScope sShut) .none kV16 dc16 pm16 an16 cd16 ct16),sl16⟩) (c16:PySem.W.codeIn K cd16 "shutting_line" = true) (k16:PySem.W.keepIn K (.ref f16) = true)
    (a17:PySem.W.nsIn K mainGlobals "shares_within" = some (some (.ref f17))) (l17:K.lookup f17 = some ⟨oc17,od17,.func (PySem.W.fnOf "shares_within" "shares_within" (defArgs sShares) (defBody sShares) (defScope sShares) .none kV17 dc17 pm17 an17 cd17 ct17),sl17⟩) (c17:PySem.W.codeIn K cd17 "shares_within" = true) (k17:PySem.W.keepIn K (.ref f17) = true)
    (a18:PySem.W.nsIn K mainGlobals "shares_between" = some (some (.ref f18))) (l18:K.lookup f18 = some ⟨oc18,od18,.func (PySem.W.fnOf "shares_between" "shares_between" (defArgs sBetween) (defBody sBetween) (defScope sBetween) .none kV18 dc18 pm18 an18 cd18 ct18),sl18⟩) (c18:PySem.W.codeIn K cd18 "shares_between" = true) (k18:PySem.W.keepIn K (.ref f18) = true)
    (a19:PySem.W.nsIn K mainGlobals "shares_of_three" = some (some (.ref f19))) (l19:K.lookup f19 = some ⟨oc19,od19,.func (PySem.W.fnOf "shares_of_three" "shares_of_three" (defArgs sOf3) (defBody sOf3) (defScope sOf3) .none kV19 dc19 pm19 an19 cd19 ct19),sl19⟩) (c19:PySem.W.codeIn K cd19 "shares_of_three" = true) (k19:PySem.W.keepIn K (.ref f19) = true)
    (a20:PySem.W.nsIn K mainGlobals "parted" = some (some (.ref f20))) (l20:K.lookup f20 = some ⟨oc20,od20,.func (PySem.W.fnOf "parted" "parted" (defArgs sParted) (defBody sParted) (defScope sParted) .none kV20 dc20 pm20 an20 cd20 ct20),sl20⟩) (c20:PySem.W.codeIn K cd20 "parted" = true) (k20:PySem.W.keepIn K (.ref f20) = true)
    (a21:PySem.W.nsIn K mainGlobals "four_parted" = some (some (.ref f21))) (l21:K.lookup f21 = some ⟨oc21,od21,.func (PySem.W.fnOf "four_parted" "four_parted" (defArgs sFour) (defBody sFour) (defScope sFour) .none kV21 dc21 pm21 an21 cd21 ct21),sl21⟩) (c21:PySem.W.codeIn K cd21 "four_parted" = true) (k21:PySem.W.keepIn K (.ref f21) = true)
    (a22:PySem.W.nsIn K mainGlobals "line_or_spot" = some (some (.ref f22))) (l22:K.lookup f22 = some ⟨oc22,od22,.func (PySem.W.fnOf "line_or_spot" "line_or_spot" (defArgs sLS) (defBody sLS) (defScope sLS) .none kV22 dc22 pm22 an22 cd22 ct22),sl22⟩) (c22:PySem.W.codeIn K cd22 "line_or_spot" = true) (k22:PySem.W.keepIn K (.ref f22) = true)
    (a23:PySem.W.nsIn K mainGlobals "line_beside" = some (some (.ref f23))) (l23:K.lookup f23 = some ⟨oc23,od23,.func (PySem.W.fnOf "line_beside" "line_beside" (defArgs sBeside) (defBody sBeside) (defScope sBeside) .none kV23 dc23 pm23 an23 cd23 ct23),sl23⟩) (c23:PySem.W.codeIn K cd23 "line_beside" = true) (k23:PySem.W.keepIn K (.ref f23) = true)
    (a24:PySem.W.nsIn K mainGlobals "steps_between" = some (some (.ref f24))) (l24:K.lookup f24 = some ⟨oc24,od24,.func (PySem.W.fnOf "steps_between" "steps_between" (defArgs sSteps) (defBody sSteps) (defScope sSteps) .none kV24 dc24 pm24 an24 cd24 ct24),sl24⟩) (c24:PySem.W.codeIn K cd24 "steps_between" = true) (k24:PySem.W.keepIn K (.ref f24) = true)
    (a25:PySem.W.nsIn K mainGlobals "line_between" = some (some (.ref f25))) (l25:K.lookup f25 = some ⟨oc25,od25,.func (PySem.W.fnOf "line_between" "line_between" (defArgs sLBetween) (defBody sLBetween) (defScope sLBetween) .none kV25 dc25 pm25 an25 cd25 ct25),sl25⟩) (c25:PySem.W.codeIn K cd25 "line_between" = true) (k25:PySem.W.keepIn K (.ref f25) = true)
    (a26:PySem.W.nsIn K mainGlobals "added_up" = some (some (.ref f26))) (l26:K.lookup f26 = some ⟨oc26,od26,.func (PySem.W.fnOf "added_up" "added_up" (defArgs sAdded) (defBody sAdded) (defScope sAdded) .none kV26 dc26 pm26 an26 cd26 ct26),sl26⟩) (c26:PySem.W.codeIn K cd26 "added_up" = true) (k26:PySem.W.keepIn K (.ref f26) = true)
    (a27:PySem.W.nsIn K mainGlobals "weighed_spot" = some (some (.ref f27))) (l27:K.lookup f27 = some ⟨oc27,od27,.func (PySem.W.fnOf "weighed_spot" "weighed_spot" (defArgs sWSpot) (defBody sWSpot) (defScope sWSpot) .none kV27 dc27 pm27 an27 cd27 ct27),sl27⟩) (c27:PySem.W.codeIn K cd27 "weighed_spot" = true) (k27:PySem.W.keepIn K (.ref f27) = true)
    (a28:PySem.W.nsIn K mainGlobals "depth" = some (some (.ref f28))) (l28:K.lookup f28 = some ⟨oc28,od28,.func (PySem.W.fnOf "depth" "depth" (defArgs sDepth) (defBody sDepth) (defScope sDepth) .none kV28 dc28 pm28 an28 cd28 ct28),sl28⟩) (c28:PySem.W.codeIn K cd28 "depth" = true) (k28:PySem.W.keepIn K (.ref f28) = true)
    (a29:PySem.W.nsIn K mainGlobals "middle" = some (some (.ref f29))) (l29:K.lookup f29 = some ⟨oc29,od29,.func (PySem.W.fnOf "middle" "middle" (defArgs sMid) (defBody sMid) (defScope sMid) .none kV29 dc29 pm29 an29 cd29 ct29),sl29⟩) (c29:PySem.W.codeIn K cd29 "middle" = true) (k29:PySem.W.keepIn K (.ref f29) = true)
    (a30:PySem.W.nsIn K mainGlobals "line_through" = some (some (.ref f30))) (l30:K.lookup f30 = some ⟨oc30,od30,.func (PySem.W.fnOf "line_through" "line_through" (defArgs sThru) (defBody sThru) (defScope sThru) .none kV30 dc30 pm30 an30 cd30 ct30),sl30⟩) (c30:PySem.W.codeIn K cd30 "line_through" = true) (k30:PySem.W.keepIn K (.ref f30) = true)
    (a31:PySem.W.nsIn K mainGlobals "count_along" = some (some (.ref f31))) (l31:K.lookup f31 = some ⟨oc31,od31,.func (PySem.W.fnOf "count_along" "count_along" (defArgs sCnt) (defBody sCnt) (defScope sCnt) .none kV31 dc31 pm31 an31 cd31 ct31),sl31⟩) (c31:PySem.W.codeIn K cd31 "count_along" = true) (k31:PySem.W.keepIn K (.ref f31) = true)
    (a32:PySem.W.nsIn K mainGlobals "ways_to_try" = some (some (.ref f32))) (l32:K.lookup f32 = some ⟨oc32,od32,.func (PySem.W.fnOf "ways_to_try" "ways_to_try" (defArgs sWays) (defBody sWays) (defScope sWays) .none kV32 dc32 pm32 an32 cd32 ct32),sl32⟩) (c32:PySem.W.codeIn K cd32 "ways_to_try" = true) (k32:PySem.W.keepIn K (.ref f32) = true)
    (a33:PySem.W.nsIn K mainGlobals "step_to" = some (some (.ref f33))) (l33:K.lookup f33 = some ⟨oc33,od33,.func (PySem.W.fnOf "step_to" "step_to" (defArgs sStep) (defBody sStep) (defScope sStep) .none kV33 dc33 pm33 an33 cd33 ct33),sl33⟩) (c33:PySem.W.codeIn K cd33 "step_to" = true) (k33:PySem.W.keepIn K (.ref f33) = true)
    (a34:PySem.W.nsIn K mainGlobals "pair_sums" = some (some (.ref f34))) (l34:K.lookup f34 = some ⟨oc34,od34,.func (PySem.W.fnOf "pair_sums" "pair_sums" (defArgs sPairs) (defBody sPairs) (defScope sPairs) .none kV34 dc34 pm34 an34 cd34 ct34),sl34⟩) (c34:PySem.W.codeIn K cd34 "pair_sums" = true) (k34:PySem.W.keepIn K (.ref f34) = true)
    (a35:PySem.W.nsIn K mainGlobals "shown" = some (some (.ref f35))) (l35:K.lookup f35 = some ⟨oc35,od35,.func (PySem.W.fnOf "shown" "shown" (defArgs sShow) (defBody sShow) (defScope sShow) .none kV35 dc35 pm35 an35 cd35 ct35),sl35⟩) (c35:PySem.W.codeIn K cd35 "shown" = true) (k35:PySem.W.keepIn K (.ref f35) = true)
    (a36:PySem.W.nsIn K mainGlobals "shown_point" = some (some (.ref f36))) (l36:K.lookup f36 = some ⟨oc36,od36,.func (PySem.W.fnOf "shown_point" "shown_point" (defArgs sSPt) (defBody sSPt) (defScope sSPt) .none kV36 dc36 pm36 an36 cd36 ct36),sl36⟩) (c36:PySem.W.codeIn K cd36 "shown_point" = true) (k36:PySem.W.keepIn K (.ref f36) = true)
    (a37:PySem.W.nsIn K mainGlobals "_law_cell_at" = some (some (.ref f37))) (l37:K.lookup f37 = some ⟨oc37,od37,.func (PySem.W.fnOf "_law_cell_at" "_law_cell_at" (defArgs sCell) (defBody sCell) (defScope sCell) .none kV37 dc37 pm37 an37 cd37 ct37),sl37⟩) (c37:PySem.W.codeIn K cd37 "_law_cell_at" = true) (k37:PySem.W.keepIn K (.ref f37) = true)
    (a38:PySem.W.nsIn K mainGlobals "_law_next" = some (some (.ref f38))) (l38:K.lookup f38 = some ⟨oc38,od38,.func (PySem.W.fnOf "_law_next" "_law_next" (defArgs sNext) (defBody sNext) (defScope sNext) .none kV38 dc38 pm38 an38 cd38 ct38),sl38⟩) (c38:PySem.W.codeIn K cd38 "_law_next" = true) (k38:PySem.W.keepIn K (.ref f38) = true)
    (a39:PySem.W.nsIn K mainGlobals "_law_points" = some (some (.ref f39))) (l39:K.lookup f39 = some ⟨oc39,od39,.func (PySem.W.fnOf "_law_points" "_law_points" (defArgs sPts) (defBody sPts) (defScope sPts) .none kV39 dc39 pm39 an39 cd39 ct39),sl39⟩) (c39:PySem.W.codeIn K cd39 "_law_points" = true) (k39:PySem.W.keepIn K (.ref f39) = true)
    (a40:PySem.W.nsIn K mainGlobals "_law_bad" = some (some (.ref f40))) (l40:K.lookup f40 = some ⟨oc40,od40,.func (PySem.W.fnOf "_law_bad" "_law_bad" (defArgs sLBad) (defBody sLBad) (defScope sLBad) .none kV40 dc40 pm40 an40 cd40 ct40),sl40⟩) (c40:PySem.W.codeIn K cd40 "_law_bad" = true) (k40:PySem.W.keepIn K (.ref f40) = true)
    (a41:PySem.W.nsIn K mainGlobals "_law_kind" = some (some (.ref f41))) (l41:K.lookup f41 = some ⟨oc41,od41,.func (PySem.W.fnOf "_law_kind" "_law_kind" (defArgs sKind) (defBody sKind) (defScope sKind) .none kV41 dc41 pm41 an41 cd41 ct41),sl41⟩) (c41:PySem.W.codeIn K cd41 "_law_kind" = true) (k41:PySem.W.keepIn K (.ref f41) = true)
    (a42:PySem.W.nsIn K mainGlobals "_law_asked" = some (some (.ref f42))) (l42:K.lookup f42 = some ⟨oc42,od42,.func (PySem.W.fnOf "_law_asked" "_law_asked" (defArgs sAsked) (defBody sAsked) (defScope sAsked) .none kV42 dc42 pm42 an42 cd42 ct42),sl42⟩) (c42:PySem.W.codeIn K cd42 "_law_asked" = true) (k42:PySem.W.keepIn K (.ref f42) = true)
    (a43:PySem.W.nsIn K mainGlobals "_law_tried" = some (some (.ref f43))) (l43:K.lookup f43 = some ⟨oc43,od43,.func (PySem.W.fnOf "_law_tried" "_law_tried" (defArgs sTried) (defBody sTried) (defScope sTried) .none kV43 dc43 pm43 an43 cd43 ct43),sl43⟩) (c43:PySem.W.codeIn K cd43 "_law_tried" = true) (k43:PySem.W.keepIn K (.ref f43) = true)
    (a44:PySem.W.nsIn K mainGlobals "law" = some (some (.ref f44))) (l44:K.lookup f44 = some ⟨oc44,od44,.func (PySem.W.fnOf "law" "law" (defArgs sLaw) (defBody sLaw) (defScope sLaw) .none kV44 dc44 pm44 an44 cd44 ct44),sl44⟩) (c44:PySem.W.codeIn K cd44 "law" = true) (k44:PySem.W.keepIn K (.ref f44) = true)
    (y1:PySem.W.nsIn K mainGlobals "FARTHEST" = some (some (.int 1000 tk1)))
    (y2:PySem.W.nsIn K mainGlobals "MOST_POINTS" = some (some (.int 12 tk2)))
    (z1:PySem.W.nsIn K mainGlobals "len" = some none)    (z2:PySem.W.nsIn K mainGlobals "abs" = some none)    (z3:PySem.W.nsIn K mainGlobals "sorted" = some none)    (z4:PySem.W.nsIn K mainGlobals "set" = some none)    (z5:PySem.W.nsIn K mainGlobals "list" = some none)    (z6:PySem.W.nsIn K mainGlobals "reversed" = some none)    (z7:PySem.W.nsIn K mainGlobals "range" = some none)    (z8:PySem.W.nsIn K mainGlobals "isinstance" = some none)    (z9:PySem.W.nsIn K mainGlobals "int" = some none)    (z10:PySem.W.nsIn K mainGlobals "bool" = some none)    (z11:PySem.W.nsIn K mainGlobals "tuple" = some none)    (z12:PySem.W.nsIn K mainGlobals "min" = some none)    (z13:PySem.W.nsIn K mainGlobals "max" = some none)    (z14:PySem.W.nsIn K mainGlobals "all" = some none)    (z15:PySem.W.nsIn K mainGlobals "sum" = some none)    (z16:PySem.W.nsIn K mainGlobals "zip" = some none)    (z17:PySem.W.nsIn K mainGlobals "any" = some none)    (z18:PySem.W.nsIn K mainGlobals "str" = some none)    (z19:PySem.W.nsIn K mainGlobals "enumerate" = some none)    (z20:PySem.W.nsIn K mainGlobals "ValueError" = some none)    {aN:Addr} {odN:Option Addr} {slN:Array (Option Value)} {nN:Nat} {tN1 tN2:Tok} (n1:PySem.W.nsIn K mainGlobals "NO_STEP" = some (some (.ref aN))) (n2:K.lookup aN = some ⟨.type "tuple",odN,.seq #[.int 0 tN1,.int 0 tN2] nN,slN⟩)
    {cx0 cx1 cx2 cx3 cx4 cx5:Addr} (ex0:PySem.W.nsIn K mainGlobals "HullError" = some (some (.ref cx0))) (ex1:PySem.W.nsIn K mainGlobals "NoPoint" = some (some (.ref cx1))) (ex2:PySem.W.nsIn K mainGlobals "NoSpot" = some (some (.ref cx2))) (ex3:PySem.W.nsIn K mainGlobals "NoFour" = some (some (.ref cx3))) (ex4:PySem.W.nsIn K mainGlobals "NoMiddle" = some (some (.ref cx4))) (ex5:PySem.W.nsIn K mainGlobals "NoNote" = some (some (.ref cx5))) (qx1:excSeen K cx0 cx1 = true) (sx1:kindSeen K cx1 [cx1,cx2,cx3,cx4,cx5] [true,false,false,false,false] = true) (qx2:excSeen K cx0 cx2 = true) (sx2:kindSeen K cx2 [cx1,cx2,cx3,cx4,cx5] [false,true,false,false,false] = true) (qx3:excSeen K cx0 cx3 = true) (sx3:kindSeen K cx3 [cx1,cx2,cx3,cx4,cx5] [false,false,true,false,false] = true) (qx4:excSeen K cx0 cx4 = true) (sx4:kindSeen K cx4 [cx1,cx2,cx3,cx4,cx5] [false,false,false,true,false] = true) (qx5:excSeen K cx0 cx5 = true) (sx5:kindSeen K cx5 [cx1,cx2,cx3,cx4,cx5] [false,false,false,false,true] = true)
 :
    ∃ fd:FuncData,(∀ (s:Shared) (v:Value),BindsTo s fd ⟨[v],[]⟩ [("script",v)])∧∀ base:Heap,K.In base→base.Ns mainGlobals mg→FnOk l.prog w K mg base CX0 8 fa fd ["script"] (spLaw K):=by
  have e:=hfa.symm.trans (PySem.W.mg_of X G a44)
  cases e
  have T:Txt mg:={ len:=PySem.W.mg_none_of X G z1,abs:=PySem.W.mg_none_of X G z2,sorted:=PySem.W.mg_none_of X G z3,set:=PySem.W.mg_none_of X G z4,list:=PySem.W.mg_none_of X G z5,reversed:=PySem.W.mg_none_of X G z6,range:=PySem.W.mg_none_of X G z7,isinstance:=PySem.W.mg_none_of X G z8,int:=PySem.W.mg_none_of X G z9,bool:=PySem.W.mg_none_of X G z10,tuple:=PySem.W.mg_none_of X G z11,min:=PySem.W.mg_none_of X G z12,max:=PySem.W.mg_none_of X G z13,all:=PySem.W.mg_none_of X G z14,sum:=PySem.W.mg_none_of X G z15,zip:=PySem.W.mg_none_of X G z16,any:=PySem.W.mg_none_of X G z17,str:=PySem.W.mg_none_of X G z18,enumerate:=PySem.W.mg_none_of X G z19,valueError:=PySem.W.mg_none_of X G z20,far:=⟨_,PySem.W.mg_of X G y1⟩,most:=⟨_,PySem.W.mg_of X G y2⟩ }
  have hN:NoStep K mg:=⟨aN,_,_,_,PySem.W.mg_of X G n1,n2,rfl,rfl,(by show 2≤sizeLine; decide),.cons ⟨_,rfl⟩ (.cons ⟨_,rfl⟩ .nil)⟩
  have hE:Excs K mg cx0 cx1 cx2 cx3 cx4 cx5:=⟨PySem.W.mg_of X G ex0,PySem.W.mg_of X G ex1,PySem.W.mg_of X G ex2,PySem.W.mg_of X G ex3,PySem.W.mg_of X G ex4,PySem.W.mg_of X G ex5,ExcOk.of qx1,kinds_of sx1,ExcOk.of qx2,kinds_of sx2,ExcOk.of qx3,kinds_of sx3,ExcOk.of qx4,kinds_of sx4,ExcOk.of qx5,kinds_of sx5⟩
  have F1:=fun_mk (st:=sChk) l1 c1 k1
  have b1:=F1.binds (ps:=["point"]) fun _ _ _ _ _ _ us hl=>match us,hl with | [_],_=>rfl
  have m1:=PySem.W.mg_of X G a1
  have F2:=fun_mk (st:=sChks) l2 c2 k2
  have b2:=F2.binds (ps:=["points"]) fun _ _ _ _ _ _ us hl=>match us,hl with | [_],_=>rfl
  have m2:=PySem.W.mg_of X G a2
  have F3:=fun_mk (st:=sCkSpot) l3 c3 k3
  have b3:=F3.binds (ps:=["spot"]) fun _ _ _ _ _ _ us hl=>match us,hl with | [_],_=>rfl
  have m3:=PySem.W.mg_of X G a3
  have F4:=fun_mk (st:=sTurn) l4 c4 k4
  have b4:=F4.binds (ps:=["tail","head","point"]) fun _ _ _ _ _ _ us hl=>match us,hl with | [_,_,_],_=>rfl
  have m4:=PySem.W.mg_of X G a4
  have F5:=fun_mk (st:=sReach) l5 c5 k5
  have b5:=F5.binds (ps:=["tail","head","point"]) fun _ _ _ _ _ _ us hl=>match us,hl with | [_,_,_],_=>rfl
  have m5:=PySem.W.mg_of X G a5
  have F6:=fun_mk (st:=sWorth) l6 c6 k6
  have b6:=F6.binds (ps:=["line","point"]) fun _ _ _ _ _ _ us hl=>match us,hl with | [_,_],_=>rfl
  have m6:=PySem.W.mg_of X G a6
  have F7:=fun_mk (st:=sAlong) l7 c7 k7
  have b7:=F7.binds (ps:=["tail","head"]) fun _ _ _ _ _ _ us hl=>match us,hl with | [_,_],_=>rfl
  have m7:=PySem.W.mg_of X G a7
  have F8:=fun_mk (st:=sAcross) l8 c8 k8
  have b8:=F8.binds (ps:=["tail","head"]) fun _ _ _ _ _ _ us hl=>match us,hl with | [_,_],_=>rfl
  have m8:=PySem.W.mg_of X G a8
  have F9:=fun_mk (st:=sGcd) l9 c9 k9
  have b9:=F9.binds (ps:=["one","other"]) fun _ _ _ _ _ _ us hl=>match us,hl with | [_,_],_=>rfl
  have m9:=PySem.W.mg_of X G a9
  have F10:=fun_mk (st:=sLowest) l10 c10 k10
  have b10:=F10.binds (ps:=["three"]) fun _ _ _ _ _ _ us hl=>match us,hl with | [_],_=>rfl
  have m10:=PySem.W.mg_of X G a10
  have F11:=fun_mk (st:=sWeigh) l11 c11 k11
  have b11:=F11.binds (ps:=["shares"]) fun _ _ _ _ _ _ us hl=>match us,hl with | [_],_=>rfl
  have m11:=PySem.W.mg_of X G a11
  have F12:=fun_mk (st:=sCor) l12 c12 k12
  have b12:=F12.binds (ps:=["points"]) fun _ _ _ _ _ _ us hl=>match us,hl with | [_],_=>rfl
  have m12:=PySem.W.mg_of X G a12
  have F13:=fun_mk (st:=sPlaced) l13 c13 k13
  have b13:=F13.binds (ps:=["points","point"]) fun _ _ _ _ _ _ us hl=>match us,hl with | [_,_],_=>rfl
  have m13:=PySem.W.mg_of X G a13
  have F14:=fun_mk (st:=sRnd) l14 c14 k14
  have b14:=F14.binds (ps:=["points"]) fun _ _ _ _ _ _ us hl=>match us,hl with | [_],_=>rfl
  have m14:=PySem.W.mg_of X G a14
  have F15:=fun_mk (st:=sSide) l15 c15 k15
  have b15:=F15.binds (ps:=["points"]) fun _ _ _ _ _ _ us hl=>match us,hl with | [_],_=>rfl
  have m15:=PySem.W.mg_of X G a15
  have F16:=fun_mk (st:=sShut) l16 c16 k16
  have b16:=F16.binds (ps:=["ends","point"]) fun _ _ _ _ _ _ us hl=>match us,hl with | [_,_],_=>rfl
  have m16:=PySem.W.mg_of X G a16
  have F17:=fun_mk (st:=sShares) l17 c17 k17
  have b17:=F17.binds (ps:=["ends","point"]) fun _ _ _ _ _ _ us hl=>match us,hl with | [_,_],_=>rfl
  have m17:=PySem.W.mg_of X G a17
  have F18:=fun_mk (st:=sBetween) l18 c18 k18
  have b18:=F18.binds (ps:=["tail","head","point"]) fun _ _ _ _ _ _ us hl=>match us,hl with | [_,_,_],_=>rfl
  have m18:=PySem.W.mg_of X G a18
  have F19:=fun_mk (st:=sOf3) l19 c19 k19
  have b19:=F19.binds (ps:=["one","two","three","point"]) fun _ _ _ _ _ _ us hl=>match us,hl with | [_,_,_,_],_=>rfl
  have m19:=PySem.W.mg_of X G a19
  have F20:=fun_mk (st:=sParted) l20 c20 k20
  have b20:=F20.binds (ps:=["ones","others"]) fun _ _ _ _ _ _ us hl=>match us,hl with | [_,_],_=>rfl
  have m20:=PySem.W.mg_of X G a20
  have F21:=fun_mk (st:=sFour) l21 c21 k21
  have b21:=F21.binds (ps:=["points"]) fun _ _ _ _ _ _ us hl=>match us,hl with | [_],_=>rfl
  have m21:=PySem.W.mg_of X G a21
  have F22:=fun_mk (st:=sLS) l22 c22 k22
  have b22:=F22.binds (ps:=["ones","others"]) fun _ _ _ _ _ _ us hl=>match us,hl with | [_,_],_=>rfl
  have m22:=PySem.W.mg_of X G a22
  have F23:=fun_mk (st:=sBeside) l23 c23 k23
  have b23:=F23.binds (ps:=["ones"]) fun _ _ _ _ _ _ us hl=>match us,hl with | [_],_=>rfl
  have m23:=PySem.W.mg_of X G a23
  have F24:=fun_mk (st:=sSteps) l24 c24 k24
  have b24:=F24.binds (ps:=["ones","others"]) fun _ _ _ _ _ _ us hl=>match us,hl with | [_,_],_=>rfl
  have m24:=PySem.W.mg_of X G a24
  have F25:=fun_mk (st:=sLBetween) l25 c25 k25
  have b25:=F25.binds (ps:=["ones","others","shutting"]) fun _ _ _ _ _ _ us hl=>match us,hl with | [_,_,_],_=>rfl
  have m25:=PySem.W.mg_of X G a25
  have F26:=fun_mk (st:=sAdded) l26 c26 k26
  have b26:=F26.binds (ps:=["shares"]) fun _ _ _ _ _ _ us hl=>match us,hl with | [_],_=>rfl
  have m26:=PySem.W.mg_of X G a26
  have F27:=fun_mk (st:=sWSpot) l27 c27 k27
  have b27:=F27.binds (ps:=["points","shares"]) fun _ _ _ _ _ _ us hl=>match us,hl with | [_,_],_=>rfl
  have m27:=PySem.W.mg_of X G a27
  have F28:=fun_mk (st:=sDepth) l28 c28 k28
  have b28:=F28.binds (ps:=["points","spot"]) fun _ _ _ _ _ _ us hl=>match us,hl with | [_,_],_=>rfl
  have m28:=PySem.W.mg_of X G a28
  have F29:=fun_mk (st:=sMid) l29 c29 k29
  have b29:=F29.binds (ps:=["points"]) fun _ _ _ _ _ _ us hl=>match us,hl with | [_],_=>rfl
  have m29:=PySem.W.mg_of X G a29
  have F30:=fun_mk (st:=sThru) l30 c30 k30
  have b30:=F30.binds (ps:=["spot","way"]) fun _ _ _ _ _ _ us hl=>match us,hl with | [_,_],_=>rfl
  have m30:=PySem.W.mg_of X G a30
  have F31:=fun_mk (st:=sCnt) l31 c31 k31
  have b31:=F31.binds (ps:=["points","line"]) fun _ _ _ _ _ _ us hl=>match us,hl with | [_,_],_=>rfl
  have m31:=PySem.W.mg_of X G a31
  have F32:=fun_mk (st:=sWays) l32 c32 k32
  have b32:=F32.binds (ps:=["points","spot"]) fun _ _ _ _ _ _ us hl=>match us,hl with | [_,_],_=>rfl
  have m32:=PySem.W.mg_of X G a32
  have F33:=fun_mk (st:=sStep) l33 c33 k33
  have b33:=F33.binds (ps:=["point","spot"]) fun _ _ _ _ _ _ us hl=>match us,hl with | [_,_],_=>rfl
  have m33:=PySem.W.mg_of X G a33
  have F34:=fun_mk (st:=sPairs) l34 c34 k34
  have b34:=F34.binds (ps:=["steps"]) fun _ _ _ _ _ _ us hl=>match us,hl with | [_],_=>rfl
  have m34:=PySem.W.mg_of X G a34
  have F35:=fun_mk (st:=sShow) l35 c35 k35
  have b35:=F35.binds (ps:=["points"]) fun _ _ _ _ _ _ us hl=>match us,hl with | [_],_=>rfl
  have m35:=PySem.W.mg_of X G a35
  have F36:=fun_mk (st:=sSPt) l36 c36 k36
  have b36:=F36.binds (ps:=["point"]) fun _ _ _ _ _ _ us hl=>match us,hl with | [_],_=>rfl
  have m36:=PySem.W.mg_of X G a36
  have F37:=fun_mk (st:=sCell) l37 c37 k37
  have b37:=F37.binds (ps:=["script","k"]) fun _ _ _ _ _ _ us hl=>match us,hl with | [_,_],_=>rfl
  have m37:=PySem.W.mg_of X G a37
  have F38:=fun_mk (st:=sNext) l38 c38 k38
  have b38:=F38.binds (ps:=["seed"]) fun _ _ _ _ _ _ us hl=>match us,hl with | [_],_=>rfl
  have m38:=PySem.W.mg_of X G a38
  have F39:=fun_mk (st:=sPts) l39 c39 k39
  have b39:=F39.binds (ps:=["script","at","most"]) fun _ _ _ _ _ _ us hl=>match us,hl with | [_,_,_],_=>rfl
  have m39:=PySem.W.mg_of X G a39
  have F40:=fun_mk (st:=sLBad) l40 c40 k40
  have b40:=F40.binds (ps:=["points","cell"]) fun _ _ _ _ _ _ us hl=>match us,hl with | [_,_],_=>rfl
  have m40:=PySem.W.mg_of X G a40
  have F41:=fun_mk (st:=sKind) l41 c41 k41
  have b41:=F41.binds (ps:=["e"]) fun _ _ _ _ _ _ us hl=>match us,hl with | [_],_=>rfl
  have m41:=PySem.W.mg_of X G a41
  have F42:=fun_mk (st:=sAsked) l42 c42 k42
  have b42:=F42.binds (ps:=["which","points"]) fun _ _ _ _ _ _ us hl=>match us,hl with | [_,_],_=>rfl
  have m42:=PySem.W.mg_of X G a42
  have F43:=fun_mk (st:=sTried) l43 c43 k43
  have b43:=F43.binds (ps:=["which","points"]) fun _ _ _ _ _ _ us hl=>match us,hl with | [_,_],_=>rfl
  have m43:=PySem.W.mg_of X G a43
  have F44:=fun_mk (st:=sLaw) l44 c44 k44
  have b44:=F44.binds (ps:=["script"]) fun _ _ _ _ _ _ us hl=>match us,hl with | [_],_=>rfl
  have m44:=PySem.W.mg_of X G a44
  refine ⟨PySem.W.fnOf "law" "law" (defArgs sLaw) (defBody sLaw) (defScope sLaw) .none kV44 dc44 pm44 an44 cd44 ct44,fun s v=>.of_eq rfl,fun base _ _=>?_⟩
  have O37:FnOk l.prog w K mg base CX0 1 f37 _ _ _:=ok_cell F37 T
  have O38:FnOk l.prog w K mg base CX0 1 f38 _ _ _:=ok_next F38
  have O39:FnOk l.prog w K mg base CX0 2 f39 _ _ _:=ok_pts F39 T O37 b37 k37 m37 O38 b38 k38 m38
  have O40:FnOk l.prog w K mg base CX0 1 f40 _ _ _:=ok_lbad F40 T
  have O1:FnOk l.prog w K mg base CX0 1 f1 _ _ _:=ok_chk F1 T
  have O2:FnOk l.prog w K mg base CX0 2 f2 _ _ _:=ok_chks F2 T O1 b1 k1 m1
  have O4:FnOk l.prog w K mg base CX0 1 f4 _ _ _:=ok_turn F4
  have O15:FnOk l.prog w K mg base CX0 2 f15 _ _ _:=ok_side F15 T O4 b4 k4 m4
  have O14:FnOk l.prog w K mg base CX0 3 f14 _ _ _:=ok_rnd F14 T O15 b15 k15 m15
  have O12:FnOk l.prog w K mg base CX0 4 f12 _ _ _:=ok_cor F12 O2 b2 k2 m2 O14 b14 k14 m14
  have O1b:FnOk l.prog w K mg base (CXE l.prog w) 1 f1 _ _ _:=ok_chkB F1 T hE
  have O2b:FnOk l.prog w K mg base (CXE l.prog w) 2 f2 _ _ _:=ok_chksB F2 T hE O1 b1 k1 m1 O1b b1 k1 m1
  have O12b:FnOk l.prog w K mg base (CXE l.prog w) 4 f12 _ _ _:=ok_corB F12 O2b b2 k2 m2
  have O7:FnOk l.prog w K mg base CX0 1 f7 _ _ _:=ok_along F7
  have O8:FnOk l.prog w K mg base CX0 1 f8 _ _ _:=ok_across F8
  have O6:FnOk l.prog w K mg base CX0 1 f6 _ _ _:=ok_worth F6
  have O16:FnOk l.prog w K mg base CX0 2 f16 _ _ _:=ok_shut F16 T O7 b7 k7 m7 O8 b8 k8 m8 O6 b6 k6 m6
  have O5:FnOk l.prog w K mg base CX0 1 f5 _ _ _:=ok_reach F5
  have O18:FnOk l.prog w K mg base CX0 2 f18 _ _ _:=ok_between F18 O5 b5 k5 m5
  have O19:FnOk l.prog w K mg base CX0 2 f19 _ _ _:=ok_of3 F19 O4 b4 k4 m4
  have O17:FnOk l.prog w K mg base CX0 3 f17 _ _ _:=ok_shares F17 T O18 b18 k18 m18 O4 b4 k4 m4 O19 b19 k19 m19
  have O9:FnOk l.prog w K mg base CX0 1 f9 _ _ _:=ok_gcd F9
  have O11:FnOk l.prog w K mg base CX0 2 f11 _ _ _:=ok_weigh F11 T O9 b9 k9 m9
  have O13:FnOk l.prog w K mg base CX0 4 f13 _ _ _:=ok_placed F13 O2 b2 k2 m2 O1 b1 k1 m1 O14 b14 k14 m14 O16 b16 k16 m16 O17 b17 k17 m17 O11 b11 k11 m11
  have O13b:FnOk l.prog w K mg base (CXE l.prog w) 4 f13 _ _ _:=ok_placedB F13 O2 b2 k2 m2 O2b b2 k2 m2 O1b b1 k1 m1
  have O23:FnOk l.prog w K mg base CX0 1 f23 _ _ _:=ok_beside F23 T
  have O24:FnOk l.prog w K mg base CX0 1 f24 _ _ _:=ok_steps F24 T
  have O25:FnOk l.prog w K mg base CX0 2 f25 _ _ _:=ok_lbetween F25 T O6 b6 k6 m6
  have O26:FnOk l.prog w K mg base CX0 1 f26 _ _ _:=ok_added F26 T
  have O10:FnOk l.prog w K mg base CX0 2 f10 _ _ _:=ok_lowest F10 T O9 b9 k9 m9
  have O27:FnOk l.prog w K mg base CX0 3 f27 _ _ _:=ok_wspot F27 T O10 b10 k10 m10
  have O22:FnOk l.prog w K mg base CX0 4 f22 _ _ _:=ok_ls F22 T hN O23 b23 k23 m23 O24 b24 k24 m24 O14 b14 k14 m14 O16 b16 k16 m16 O25 b25 k25 m25 O17 b17 k17 m17 O26 b26 k26 m26 O27 b27 k27 m27 O11 b11 k11 m11
  have O20:FnOk l.prog w K mg base CX0 5 f20 _ _ _:=ok_parted F20 O2 b2 k2 m2 O22 b22 k22 m22
  have O20b:FnOk l.prog w K mg base (CXE l.prog w) 5 f20 _ _ _:=ok_partedB F20 O2 b2 k2 m2 O2b b2 k2 m2
  have O21b:FnOk l.prog w K mg base (CXE l.prog w) 3 f21 _ _ _:=ok_fourP F21 O2b b2 k2 m2
  have O28b:FnOk l.prog w K mg base (CXE l.prog w) 3 f28 _ _ _:=ok_depthP F28 O2b b2 k2 m2
  have O29b:FnOk l.prog w K mg base (CXE l.prog w) 3 f29 _ _ _:=ok_midP F29 O2b b2 k2 m2
  have O36:FnOk l.prog w K mg base CX0 1 f36 _ _ _:=ok_spt F36
  have O35:FnOk l.prog w K mg base CX0 3 f35 _ _ _:=ok_show F35 O2 b2 k2 m2 O36 b36 k36 m36
  have O35b:FnOk l.prog w K mg base (CXE l.prog w) 3 f35 _ _ _:=ok_showB F35 O2b b2 k2 m2
  have O42b:FnOk l.prog w K mg base (CXE l.prog w) 6 f42 _ _ _:=ok_asked F42 O12 b12 k12 m12 O12b b12 k12 m12 O13 b13 k13 m13 O13b b13 k13 m13 O20 b20 k20 m20 O20b b20 k20 m20 O21b b21 k21 m21 O28b b28 k28 m28 O29b b29 k29 m29 O35 b35 k35 m35 O35b b35 k35 m35
  have O41h:FnOkH l.prog w K mg base 1 f41 _ _ _:=ok_kind F41 T hE
  have O43:FnOk l.prog w K mg base CX0 7 f43 _ _ _:=ok_tried F43 T hE O42b b42 k42 m42 O41h b41 k41 m41
  exact ok_law F44 T O39 b39 k39 m39 O37 b37 k37 m37 O40 b40 k40 m40 O43 b43 k43 m43
theorem walk {l:PySem.W.OpenLaw} {q:Program} {loose:List Str} {XP:(Str→Option Value)→Heap→Prop} {YP:World→Heap→Prop} {d:DefRec} {K:Params→PySem.W.Frag} (hn:l.most = some 63) (hdf:d.params.defaults = [])
  (hY:∀ (w:World) (h:Heap),YP w h→(K w.params).In h)
  (F:∀ (w:World) (mg:Str→Option Value) (fa:Addr) (h:Heap),(K w.params).In h→h.Ns mainGlobals mg→mg d.name = some (.ref fa) →
   ∃ fd:FuncData,(∀ (s:Shared) (u:Value),BindsTo s fd ⟨[u],[]⟩ [("script",u)])∧∀ base:Heap,(K w.params).In base→base.Ns mainGlobals mg→FnOk l.prog w (K w.params) mg base CX0 8 fa fd ["script"] (spLaw (K w.params))) :
  PySem.W.WalkO q loose XP YP l.row.toRowW d [] (fun f vs=>PySem.call f vs) :=
 L2.walk_of (n:=63) (k:=8) (x:="script") (CX:=fun _=>CX0) (sp:=fun w=>spLaw (K w.params)) hn (by decide) hdf ⟨rfl,by decide,by decide,rfl⟩ hY F (fun _ _ a ns hl _ hS=>⟨a,ns,rfl,hS,hl,fun _=>rfl⟩) fun _ _ _ _ _ z=>z
end Toy
def PySem.W.Fast.tw4307652744730299568:Nat:=0
def PySem.W.Fast.tw8255633510842648757:Nat:=0
def PySem.W.Fast.tw13664705618714765371:Nat:=0
def PySem.W.Fast.tw312167389967488932:Nat:=0
def PySem.W.Fast.tw13596630935503231549:Nat:=0
def PySem.W.Fast.tw6156524915360626706:Nat:=0
def PySem.W.Fast.tw16877878887328853318:Nat:=0
def PySem.W.Fast.tw18114517520218198216:Nat:=0
def PySem.W.Fast.tw6799127444766375485:Nat:=0
def PySem.W.Fast.tw5642736523447104911:Nat:=0
def PySem.W.Fast.tw9045971132464809532:Nat:=0
def PySem.W.Fast.tw691231820487500644:Nat:=0
def PySem.W.Fast.tw11060027605940466369:Nat:=0
def PySem.W.Fast.tw2209885573232388208:Nat:=0
def PySem.W.Fast.tw6459050626090109482:Nat:=0
def PySem.W.Fast.tw12789712294792636183:Nat:=0
open PySem PySem.W PyProof.Rows
set_option maxRecDepth 100000 in
set_option maxHeartbeats 0 in
theorem PySem.Challenge.cw_hullpart_k11_no_point_holds : PySem.Challenge.rw_hullpart_k11_no_point.Holds := by
 w_on; o_law; k_head; (case hw=>w_witness2)
 k_fill
 refine Toy.walk (l:=PySem.Challenge.rw_hullpart_k11_no_point) rfl rfl (fun w h Y=>PySem.W.kIn_of Y) ?F
 case F =>
  intro w mg fa h KX G hmg
  refine' Toy.all_mk KX G hmg ?a1 ?l1 ?c1 ?k1 ?a2 ?l2 ?c2 ?k2 ?a3 ?l3 ?c3 ?k3 ?a4 ?l4 ?c4 ?k4 ?a5 ?l5 ?c5 ?k5 ?a6 ?l6 ?c6 ?k6 ?a7 ?l7 ?c7 ?k7 ?a8 ?l8 ?c8 ?k8 ?a9 ?l9 ?c9 ?k9 ?a10 ?l10 ?c10 ?k10 ?a11 ?l11 ?c11 ?k11 ?a12 ?l12 ?c12 ?k12 ?a13 ?l13 ?c13 ?k13 ?a14 ?l14 ?c14 ?k14 ?a15 ?l15 ?c15 ?k15 ?a16 ?l16 ?c16 ?k16 ?a17 ?l17 ?c17 ?k17 ?a18 ?l18 ?c18 ?k18 ?a19 ?l19 ?c19 ?k19 ?a20 ?l20 ?c20 ?k20 ?a21 ?l21 ?c21 ?k21 ?a22 ?l22 ?c22 ?k22 ?a23 ?l23 ?c23 ?k23 ?a24 ?l24 ?c24 ?k24 ?a25 ?l25 ?c25 ?k25 ?a26 ?l26 ?c26 ?k26 ?a27 ?l27 ?c27 ?k27 ?a28 ?l28 ?c28 ?k28 ?a29 ?l29 ?c29 ?k29 ?a30 ?l30 ?c30 ?k30 ?a31 ?l31 ?c31 ?k31 ?a32 ?l32 ?c32 ?k32 ?a33 ?l33 ?c33 ?k33 ?a34 ?l34 ?c34 ?k34 ?a35 ?l35 ?c35 ?k35 ?a36 ?l36 ?c36 ?k36 ?a37 ?l37 ?c37 ?k37 ?a38 ?l38 ?c38 ?k38 ?a39 ?l39 ?c39 ?k39 ?a40 ?l40 ?c40 ?k40 ?a41 ?l41 ?c41 ?k41 ?a42 ?l42 ?c42 ?k42 ?a43 ?l43 ?c43 ?k43 ?a44 ?l44 ?c44 ?k44 ?y1 ?y2 ?z1 ?z2 ?z3 ?z4 ?z5 ?z6 ?z7 ?z8 ?z9 ?z10 ?z11 ?z12 ?z13 ?z14 ?z15 ?z16 ?z17 ?z18 ?z19 ?z20 ?n1 ?n2 ?ex0 ?ex1 ?ex2 ?ex3 ?ex4 ?ex5 ?qx1 ?sx1 ?qx2 ?sx2 ?qx3 ?sx3 ?qx4 ?sx4 ?qx5 ?sx5
  (case a1=>k_is)
  (case l1=>k_is)
  (case c1=>k_is)
  (case k1=>k_is)
  (case a2=>k_is)
  (case l2=>k_is)
  (case c2=>k_is)
  (case k2=>k_is)
  (case a3=>k_is)
  (case l3=>k_is)
  (case c3=>k_is)
  (case k3=>k_is)
  (case a4=>k_is)
  (case l4=>k_is)
  (case c4=>k_is)
  (case k4=>k_is)
  (case a5=>k_is)
  (case l5=>k_is)
  (case c5=>k_is)
  (case k5=>k_is)
  (case a6=>k_is)
  (case l6=>k_is)
  (case c6=>k_is)
  (case k6=>k_is)
  (case a7=>k_is)
  (case l7=>k_is)
  (case c7=>k_is)
  (case k7=>k_is)
  (case a8=>k_is)
  (case l8=>k_is)
  (case c8=>k_is)
  (case k8=>k_is)
  (case a9=>k_is)
  (case l9=>k_is)
  (case c9=>k_is)
  (case k9=>k_is)
  (case a10=>k_is)
  (case l10=>k_is)
  (case c10=>k_is)
  (case k10=>k_is)
  (case a11=>k_is)
  (case l11=>k_is)
  (case c11=>k_is)
  (case k11=>k_is)
  (case a12=>k_is)
  (case l12=>k_is)
  (case c12=>k_is)
  (case k12=>k_is)
  (case a13=>k_is)
  (case l13=>k_is)
  (case c13=>k_is)
  (case k13=>k_is)
  (case a14=>k_is)
  (case l14=>k_is)
  (case c14=>k_is)
  (case k14=>k_is)
  (case a15=>k_is)
  (case l15=>k_is)
  (case c15=>k_is)
  (case k15=>k_is)
  (case a16=>k_is)
  (case l16=>k_is)
  (case c16=>k_is)
  (case k16=>k_is)
  (case a17=>k_is)
  (case l17=>k_is)
  (case c17=>k_is)
  (case k17=>k_is)
  (case a18=>k_is)
  (case l18=>k_is)
  (case c18=>k_is)
  (case k18=>k_is)
  (case a19=>k_is)
  (case l19=>k_is)
  (case c19=>k_is)
  (case k19=>k_is)
  (case a20=>k_is)
  (case l20=>k_is)
  (case c20=>k_is)
  (case k20=>k_is)
  (case a21=>k_is)
  (case l21=>k_is)
  (case c21=>k_is)
  (case k21=>k_is)
  (case a22=>k_is)
  (case l22=>k_is)
  (case c22=>k_is)
  (case k22=>k_is)
  (case a23=>k_is)
  (case l23=>k_is)
  (case c23=>k_is)
  (case k23=>k_is)
  (case a24=>k_is)
  (case l24=>k_is)
  (case c24=>k_is)
  (case k24=>k_is)
  (case a25=>k_is)
  (case l25=>k_is)
  (case c25=>k_is)
  (case k25=>k_is)
  (case a26=>k_is)
  (case l26=>k_is)
  (case c26=>k_is)
  (case k26=>k_is)
  (case a27=>k_is)
  (case l27=>k_is)
  (case c27=>k_is)
  (case k27=>k_is)
  (case a28=>k_is)
  (case l28=>k_is)
  (case c28=>k_is)
  (case k28=>k_is)
  (case a29=>k_is)
  (case l29=>k_is)
  (case c29=>k_is)
  (case k29=>k_is)
  (case a30=>k_is)
  (case l30=>k_is)
  (case c30=>k_is)
  (case k30=>k_is)
  (case a31=>k_is)
  (case l31=>k_is)
  (case c31=>k_is)
  (case k31=>k_is)
  (case a32=>k_is)
  (case l32=>k_is)
  (case c32=>k_is)
  (case k32=>k_is)
  (case a33=>k_is)
  (case l33=>k_is)
  (case c33=>k_is)
  (case k33=>k_is)
  (case a34=>k_is)
  (case l34=>k_is)
  (case c34=>k_is)
  (case k34=>k_is)
  (case a35=>k_is)
  (case l35=>k_is)
  (case c35=>k_is)
  (case k35=>k_is)
  (case a36=>k_is)
  (case l36=>k_is)
  (case c36=>k_is)
  (case k36=>k_is)
  (case a37=>k_is)
  (case l37=>k_is)
  (case c37=>k_is)
  (case k37=>k_is)
  (case a38=>k_is)
  (case l38=>k_is)
  (case c38=>k_is)
  (case k38=>k_is)
  (case a39=>k_is)
  (case l39=>k_is)
  (case c39=>k_is)
  (case k39=>k_is)
  (case a40=>k_is)
  (case l40=>k_is)
  (case c40=>k_is)
  (case k40=>k_is)
  (case a41=>k_is)
  (case l41=>k_is)
  (case c41=>k_is)
  (case k41=>k_is)
  (case a42=>k_is)
  (case l42=>k_is)
  (case c42=>k_is)
  (case k42=>k_is)
  (case a43=>k_is)
  (case l43=>k_is)
  (case c43=>k_is)
  (case k43=>k_is)
  (case a44=>k_is)
  (case l44=>k_is)
  (case c44=>k_is)
  (case k44=>k_is)
  (case y1=>k_is)
  (case y2=>k_is)
  (case z1=>k_is)
  (case z2=>k_is)
  (case z3=>k_is)
  (case z4=>k_is)
  (case z5=>k_is)
  (case z6=>k_is)
  (case z7=>k_is)
  (case z8=>k_is)
  (case z9=>k_is)
  (case z10=>k_is)
  (case z11=>k_is)
  (case z12=>k_is)
  (case z13=>k_is)
  (case z14=>k_is)
  (case z15=>k_is)
  (case z16=>k_is)
  (case z17=>k_is)
  (case z18=>k_is)
  (case z19=>k_is)
  (case z20=>k_is)
  (case n1=>k_is)
  (case n2=>k_is)
  (case ex0=>k_is)
  (case ex1=>k_is)
  (case ex2=>k_is)
  (case ex3=>k_is)
  (case ex4=>k_is)
  (case ex5=>k_is)
  (case qx1=>kernel_rfl)
  (case sx1=>kernel_rfl)
  (case qx2=>kernel_rfl)
  (case sx2=>kernel_rfl)
  (case qx3=>kernel_rfl)
  (case sx3=>kernel_rfl)
  (case qx4=>kernel_rfl)
  (case sx4=>kernel_rfl)
  (case qx5=>kernel_rfl)
  (case sx5=>kernel_rfl)
