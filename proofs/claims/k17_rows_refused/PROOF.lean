import PyProof.Rows.All
import Wide.All
import OpenK.AllK
import Wide.FinOn
import Lean
import PyProof.EqAt
import PyProof.EqKinds
import PyProof.TupleCall
import PyProof.ZipIter
import PyProof.Draws
import PyProof.StrOps2
import KE.KLcPair
import KE.KDictLaws
import PyProof.ListMulRoad
import PyProof.EnumMake
import PyProof.EnumFor
import PySem.Challenge.RW_gloss_k17_rows_refused
set_option Elab.async false
set_option linter.all false
set_option maxRecDepth 100000
set_option genSizeOf false
set_option genSizeOfSpec false
namespace L2
open PySem PySem.Spec PyProof.Rows
abbrev Key:=Sum Int Str
def keyIs : Key -> Value -> Bool
 | .inl k,v=>Value.isInt k v
 | .inr x,v=>Value.isStrOf x v
def keyH (w : World) : Key -> Int
 | .inl k=>hashInt k
 | .inr x=>hashStr w x
theorem keyIs_shape : ∀ {k : Key} {v : Value},keyIs k v = true -> (∃ i t,k = Sum.inl i /\ v = Value.int i t) ∨ (∃ x t,k = Sum.inr x /\ v = Value.str x t)
 | .inl i,v,h=>by
  obtain ⟨t,e⟩:=Value.isInt_shape (k:=i) (v:=v) h
  exact .inl ⟨i,t,rfl,e⟩
 | .inr x,v,h=>by
  obtain ⟨t,e⟩:=Value.isStrOf_shape (x:=x) (v:=v) h
  exact .inr ⟨x,t,rfl,e⟩
theorem key_ll (a b : Int) : decide ((Sum.inl a : Key) = Sum.inl b) = (a == b):=by
 by_cases e : a = b
 ·subst e; simp
 ·have h : ¬ (Sum.inl a : Key) = Sum.inl b:=fun q=>e (Sum.inl.inj q)
  rw [decide_eq_false h]
  exact (beq_eq_false_iff_ne.mpr e).symm
theorem key_rr (a b : Str) : decide ((Sum.inr a : Key) = Sum.inr b) = decide (a = b):=by
 by_cases e : a = b
 ·subst e; simp
 ·have h : ¬ (Sum.inr a : Key) = Sum.inr b:=fun q=>e (Sum.inr.inj q)
  rw [decide_eq_false h,decide_eq_false e]
theorem key_lr (a : Int) (b : Str) : decide ((Sum.inl a : Key) = Sum.inr b) = false:=decide_eq_false (fun q=>nomatch q)
theorem key_rl (a : Str) (b : Int) : decide ((Sum.inr a : Key) = Sum.inl b) = false:=decide_eq_false (fun q=>nomatch q)
def mixKind (prog : Program) (w : World) : PySem.KeyKind prog w Key where
 is:=keyIs
 hash:=keyH w
 inj:=fun v a b ha hb=>by
  rcases keyIs_shape ha with ⟨i,t,rfl,rfl⟩ | ⟨x,t,rfl,rfl⟩
  ·rcases keyIs_shape hb with ⟨j,u,rfl,e⟩ | ⟨y,u,rfl,e⟩
   ·injection e with e1 _; rw [e1]
   ·exact nomatch e
  ·rcases keyIs_shape hb with ⟨j,u,rfl,e⟩ | ⟨y,u,rfl,e⟩
   ·exact nomatch e
   ·injection e with e1 _; rw [e1]
 byValue:=fun k v h=>by
  rcases keyIs_shape h with ⟨i,t,rfl,rfl⟩ | ⟨x,t,rfl,rfl⟩ <;> rfl
 pyHash:=fun hv h=>by
  rcases keyIs_shape hv with ⟨i,t,rfl,rfl⟩ | ⟨x,t,rfl,rfl⟩
  ·exact wpAny_pyHash_int h
  ·exact wpAny_pyHash_str h
 eqBool:=fun hu hv h=>by
  rcases keyIs_shape hu with ⟨i,t,rfl,rfl⟩ | ⟨x,t,rfl,rfl⟩
  ·rcases keyIs_shape hv with ⟨j,u,rfl,rfl⟩ | ⟨y,u,rfl,rfl⟩
   ·rw [key_ll] at h; exact wpAny_eqBool_int h
   ·rw [key_lr] at h; exact SeqAt.EqAt.int_str i t y u _ _ _ _ h
  ·rcases keyIs_shape hv with ⟨j,u,rfl,rfl⟩ | ⟨y,u,rfl,rfl⟩
   ·rw [key_rl] at h; exact SeqAt.EqAt.str_int x t j u _ _ _ _ h
   ·rw [key_rr] at h; exact wpAny_eqBool_str h
 «strs»:=fun k x t v h=>by
  rcases keyIs_shape h with ⟨i,u,rfl,e⟩ | ⟨y,u,rfl,e⟩
  ·exact nomatch e
  ·injection e with e1 _
   subst e1
   cases v <;> rfl
end L2
namespace L2
open PySem PySem.Spec PyProof.Rows
inductive V where
 | non | bl (b : Bool) | int (i : Int) | str (x : Str) | byt (b : Array UInt8) | flt (b : UInt64) | ref (a : Addr) | ty (n : String)
 deriving DecidableEq
def RelV : V -> Value -> Prop
 | .non,u=>u = Value.none
 | .bl b,u=>u = Value.bool b
 | .int i,u=>∃ t,u = Value.int i t
 | .str x,u=>∃ t,u = Value.str x t
 | .byt b,u=>∃ t,u = Value.bytes b t
 | .flt b,u=>∃ t,u = Value.float b t
 | .ref a,u=>u = Value.ref a
 | .ty n,u=>u = Value.type n
abbrev Vals : List V -> List Value -> Prop:=Paired RelV
theorem Vals.length {xs : List V} {us : List Value} (r : Vals xs us) : xs.length = us.length:=Paired.length r
theorem Vals.get : ∀ {xs : List V} {us : List Value} {i : Nat} {x : V},Vals xs us -> xs[i]? = some x -> ∃ u,us[i]? = some u /\ RelV x u
 | _,_,_,_,.nil,e=>by simp at e
 | _,_,0,_,.cons r _,e=>by simp at e; subst e; exact ⟨_,rfl,r⟩
 | _,_,i + 1,x,.cons _ t,e=>by
  obtain ⟨u,h1,h2⟩:=Vals.get (i:=i) (x:=x) t (by simpa using e)
  exact ⟨u,by simpa using h1,h2⟩
theorem Vals.set {x : V} {u : Value} (r : RelV x u) : ∀ {xs : List V} {us : List Value} (i : Nat),Vals xs us -> Vals (xs.set i x) (us.set i u)
 | _,_,_,.nil=>.nil
 | _,_,0,.cons _ t=>.cons r t
 | _,_,i + 1,.cons q t=>.cons q (Vals.set r i t)
theorem Vals.append : ∀ {xs ys : List V} {us ws : List Value},Vals xs us -> Vals ys ws -> Vals (xs ++ ys) (us ++ ws)
 | _,_,_,_,.nil,s=>s
 | _,_,_,_,.cons r t,s=>.cons r (Vals.append t s)
theorem Vals.take : ∀ {xs : List V} {us : List Value} (n : Nat),Vals xs us -> Vals (xs.take n) (us.take n)
 | _,_,0,_=>.nil
 | _,_,_ + 1,.nil=>.nil
 | _,_,n + 1,.cons r t=>.cons r (Vals.take n t)
theorem Vals.drop : ∀ {xs : List V} {us : List Value} (n : Nat),Vals xs us -> Vals (xs.drop n) (us.drop n)
 | _,_,0,r=>r
 | _,_,_ + 1,.nil=>.nil
 | _,_,n + 1,.cons _ t=>Vals.drop n t
def RelO : Option V -> Option Value -> Prop
 | some v,some u=>RelV v u
 | none,none=>True
 | _,_=>False
def KV {κ : Type} : List (κ × V) -> List (κ × Value) -> Prop:=Paired fun (p : κ × V) (q : κ × Value)=>p.1 = q.1 /\ RelV p.2 q.2
def kV : Key -> V
 | .inl i=>.int i
 | .inr x=>.str x
inductive HO where
 | lst (xs : List V)
 | tup (xs : List V)
 | dK (kvs : List (Key × V)) | dT (kvs : List (List Key × V))
 | set (S : Int -> Bool) (n : Nat)
 | ins (C dx : Addr) (fs : List (Str × V))
 | own (x : Addr)
 | xd (fs : List (Str × V))
 | met (f x : Addr)
 | rng (lo hi : Int)
 | frz (o : Obj) (u : HO)
 | tbl (ps : Array Value)
 | ext (φ : Heap -> Prop)
abbrev Hp:=Addr -> Option HO
def upd (H : Hp) (a : Addr) (o : HO) : Hp:=fun b=>if b = a then some o else H b
theorem upd_same {H : Hp} {a : Addr} {o : HO} : upd H a o a = some o:=by unfold upd; rw [if_pos rfl]
theorem upd_ne {H : Hp} {a b : Addr} {o : HO} (h : b ≠ a) : upd H a o b = H b:=by unfold upd; rw [if_neg h]
theorem ne_of_none {H : Hp} {a b : Addr} {o : HO} (h : H a = some o) (h' : H b = none) : a ≠ b:=by
 intro e; subst e; rw [h] at h'; cases h'
section
variable (P : Program) (w : World)
def ObjOk (H : Hp) (h : Heap) (a : Addr) : HO -> Prop
 | .lst xs=>xs.length <= sizeLine /\ ∃ (its : List Value) (n : Nat),Vals xs its /\ h.get? a = some { cls:=.type "list",data:=.seq its.toArray n }
 | .tup xs=>xs.length <= sizeLine /\ ∃ its : List Value,Vals xs its /\ IsTup h a its.toArray
 | .dK kvs=>kvs.length <= sizeLine /\ (a == sysModules) = false /\ ∃ vs,KV kvs vs /\ h.DictOf (mixKind P w) a vs
 | .dT kvs=>kvs.length <= sizeLine /\ (a == sysModules) = false /\ ∃ xs : List (List Key × Addr × Value),
   Paired (fun (p : List Key × V) (q : List Key × Addr × Value)=>p.1 = q.1 /\ H q.2.1 = some (.tup (p.1.map kV)) /\ RelV p.2 q.2.2) kvs xs /\
   ∃ o es ep,h.get? a = some o /\ o.ExactDict /\ o.data = .dict es ep /\ es.toList = xs.map (entryOfKey (tupleKind (mixKind P w))) /\ (xs.map (·.1)).Nodup
 | .set S n=>h.SetOf (intKind P w) a S n
 | .ins C dx fs=>H dx = some (.own a) /\ fs.length <= 1000 /\ dx ≠ a /\ h.get? a = some (PySem.W.instObj C dx) /\
   ∃ mA,h.Ns1 dx mA /\ (∀ f,RelO (fs.lookup f) (mA f)) /\ PySem.Within mA (fs.map (·.1))
 | .own _=>∃ o,h.get? a = some o
 | .xd fs=>∃ mA,h.Ns1 a mA /\ ∀ f,RelO (fs.lookup f) (mA f)
 | .rng lo hi=>∃ t u v,h.get? a = some { cls:=.type "range",data:=.fields #[.int lo t,.int hi u,.int 1 v] }
 | .frz o u=>h.get? a = some o /\ ObjOk H h a u
 | .tbl ps=>h.get? a = some { cls:=.none,data:=.fields ps }
 | .met f x=>h.get? a = some (PySem.W.methodObj (.ref f) (.ref x))
 | .ext φ=>φ h /\ (∃ o,h.get? a = some o) /\ ∀ h1 h2 : Heap,φ h1 -> (∀ o,h1.get? a = some o -> h2.get? a = some o) -> φ h2
def HOk (H : Hp) (h : Heap) : Prop:=∀ a o,H a = some o -> ObjOk P w H h a o
end
section
variable {P : Program} {w : World} {H H' : Hp} {h h' : Heap} {a : Addr} {o : HO}
theorem ObjOk.lt (x : ObjOk P w H h a o) : a < h.objs.size:=by
 cases o with
 | lst xs=>obtain ⟨_,_,_,_,e⟩:=x; exact Heap.lt_size e
 | tup xs=>obtain ⟨_,_,_,p⟩:=x; exact p.lt
 | dK kvs=>obtain ⟨_,_,_,_,o,_,_,e,_⟩:=x; exact Heap.lt_size e
 | dT kvs=>obtain ⟨_,_,_,_,o,_,_,e,_⟩:=x; exact Heap.lt_size e
 | set S n=>obtain ⟨o,_,_,_,e,_⟩:=x; exact Heap.lt_size e
 | ins C dx fs=>obtain ⟨_,_,_,e,_⟩:=x; exact Heap.lt_size e
 | own y=>obtain ⟨_,e⟩:=x; exact Heap.lt_size e
 | xd fs=>obtain ⟨_,⟨_,_,_,e,_⟩,_⟩:=x; exact Heap.lt_size e
 | rng lo hi=>obtain ⟨_,_,_,e⟩:=x; exact Heap.lt_size e
 | frz ob u=>obtain ⟨e,_⟩:=x; exact Heap.lt_size e
 | tbl ps=>exact Heap.lt_size (show h.get? a = some _ from x)
 | met f y=>exact Heap.lt_size (show h.get? a = some _ from x)
 | ext φ=>obtain ⟨_,⟨_,e⟩,_⟩:=x; exact Heap.lt_size e
theorem Paired.mapP {α β : Type} {F G : α -> β -> Prop} : ∀ {l₁ : List α} {l₂ : List β},Paired F l₁ l₂ -> (∀ a b,F a b -> G a b) -> Paired G l₁ l₂
 | _,_,.nil,_=>.nil
 | _,_,.cons r t,f=>.cons (f _ _ r) (Paired.mapP t f)
theorem ObjOk.stay (x : ObjOk P w H h a o) (k : ∀ b u,(b = a ∨ H b = some (.own a)) -> h.get? b = some u -> h'.get? b = some u)
  (ho : ∀ b,H b = some (.own a) -> H' b = some (.own a)) (ht : ∀ b xs,H b = some (.tup xs) -> H' b = some (.tup xs)) : ObjOk P w H' h' a o:=by
 induction o with
 | lst xs=>obtain ⟨z,its,n,r,e⟩:=x; exact ⟨z,its,n,r,k _ _ (.inl rfl) e⟩
 | tup xs=>obtain ⟨z,its,r,ob,e,c⟩:=x; exact ⟨z,its,r,ob,k _ _ (.inl rfl) e,c⟩
 | dK kvs=>obtain ⟨z,y,vs,r,ob,es,ep,e,c⟩:=x; exact ⟨z,y,vs,r,ob,es,ep,k _ _ (.inl rfl) e,c⟩
 | dT kvs =>
  obtain ⟨z,y,xs,r,ob,es,ep,e,c⟩:=x
  exact ⟨z,y,xs,Paired.mapP r fun p q z=>⟨z.1,ht _ _ z.2.1,z.2.2⟩,ob,es,ep,k _ _ (.inl rfl) e,c⟩
 | set S n=>obtain ⟨ob,es,ep,t,e,c⟩:=x; exact ⟨ob,es,ep,t,k _ _ (.inl rfl) e,c⟩
 | ins C dx fs =>
  obtain ⟨d,z,ne,e,mA,⟨od,es,ep,e2,c⟩,r⟩:=x
  exact ⟨ho _ d,z,ne,k _ _ (.inl rfl) e,mA,⟨od,es,ep,k _ _ (.inr d) e2,c⟩,r⟩
 | own y=>obtain ⟨ob,e⟩:=x; exact ⟨ob,k _ _ (.inl rfl) e⟩
 | xd fs=>obtain ⟨mA,⟨od,es,ep,e,c⟩,r⟩:=x; exact ⟨mA,⟨od,es,ep,k _ _ (.inl rfl) e,c⟩,r⟩
 | rng lo hi=>obtain ⟨t,u,v,e⟩:=x; exact ⟨t,u,v,k _ _ (.inl rfl) e⟩
 | frz ob u ih=>obtain ⟨e,q⟩:=x; exact ⟨k _ _ (.inl rfl) e,ih q⟩
 | tbl ps =>
  have e : h.get? a = some { cls:=.none,data:=.fields ps }:=x
  show h'.get? a = some { cls:=.none,data:=.fields ps }
  exact k a _ (.inl rfl) e
 | met f y =>
  have e : h.get? a = some (PySem.W.methodObj (.ref f) (.ref y)):=x
  show h'.get? a = some (PySem.W.methodObj (.ref f) (.ref y))
  exact k a _ (.inl rfl) e
 | ext φ=>obtain ⟨p,⟨o,e⟩,st⟩:=x; exact ⟨st _ _ p fun o q=>k _ _ (.inl rfl) q,⟨o,k _ _ (.inl rfl) e⟩,st⟩
theorem HOk.lt (x : HOk P w H h) (e : H a = some o) : a < h.objs.size:=(x a o e).lt
theorem HOk.fresh (x : HOk P w H h) (e : h.objs.size <= a) : H a = none:=by
 cases q : H a with
 | none=>rfl
 | some u=>exact absurd (Nat.lt_of_lt_of_le (x.lt q) e) (Nat.lt_irrefl _)
theorem HOk.kept (x : HOk P w H h) (k : ∀ b u,h.get? b = some u -> h'.get? b = some u) : HOk P w H h':=fun a o e =>
 (x a o e).stay (fun b u _ q=>k b u q) (fun _ q=>q) fun _ _ q=>q
theorem HOk.laid (x : HOk P w H h) (k : ∀ b u,h.get? b = some u -> h'.get? b = some u) (hp : h.objs.size <= a) (new : ObjOk P w (upd H a o) h' a o) : HOk P w (upd H a o) h':=fun b u e=>by
 have hn:=x.fresh hp
 by_cases hb : b = a
 ·subst hb; rw [upd_same] at e; cases e; exact new
 ·rw [upd_ne hb] at e
  exact (x b u e).stay (fun c v _ q=>k c v q) (fun c q=>by rw [upd_ne (ne_of_none q hn)]; exact q) fun c xs q=>by rw [upd_ne (ne_of_none q hn)]; exact q
end
def Rd (H : Hp) (a : Addr) (u : HO) : Prop:=H a = some u ∨ ∃ o,H a = some (.frz o u)
theorem Rd.of {H : Hp} {a : Addr} {u : HO} (h : H a = some u) : Rd H a u:=.inl h
theorem Rd.ok {P : Program} {w : World} {H : Hp} {h : Heap} {a : Addr} {u : HO} (r : Rd H a u) (x : HOk P w H h) : ObjOk P w H h a u:=by
 rcases r with r | ⟨o,r⟩
 ·exact x a u r
 ·obtain ⟨_,q⟩:=x a _ r
  exact q
def Mut : Option HO -> Prop
 | some (.lst _)=>True
 | some (.dK _)=>True
 | some (.dT _)=>True
 | some (.set _ _)=>True
 | some (.ins _ _ _)=>True
 | some (.ext _)=>True
 | _=>False
section
variable {P : Program} {w : World} {H : Hp} {h h' : Heap} {x e : Addr} {o' : HO}
theorem HOk.write (ok : HOk P w H h) (mu : Mut (H x)) (he : e = x ∨ H e = some (.own x)) (k : ∀ b u,b ≠ e -> h.get? b = some u -> h'.get? b = some u) (heo : ∃ u,h'.get? e = some u)
  (new : ObjOk P w (upd H x o') h' x o') : HOk P w (upd H x o') h':=fun b u q=>by
 have nown : ∀ c y,H c = some (.own y) -> c ≠ x:=fun c y r z=>by subst z; rw [r] at mu; exact mu
 have ntup : ∀ c xs,H c = some (.tup xs) -> c ≠ x:=fun c xs r z=>by subst z; rw [r] at mu; exact mu
 by_cases hb : b = x
 ·subst hb; rw [upd_same] at q; cases q; exact new
 ·rw [upd_ne hb] at q
  by_cases hbe : b = e
  ·have q' : H b = some (.own x):=by
    rcases he with z | z
    ·exact absurd (hbe.trans z) hb
    ·rw [hbe]; exact z
   rw [q] at q'; cases q'
   obtain ⟨v,hv⟩:=heo
   exact ⟨v,by rw [hbe]; exact hv⟩
  ·refine (ok b u q).stay (fun c v hc r=>k c v ?_ r) (fun c r=>by rw [upd_ne (nown c b r)]; exact r) fun c xs r=>by rw [upd_ne (ntup c xs r)]; exact r
   rcases hc with rfl | hc
   ·exact hbe
   ·rintro rfl
    rcases he with z | z
    ·exact nown c b hc z
    ·rw [hc] at z; cases z; exact hb rfl
end
structure Un (fs ex : List Addr) (H H' : Hp) (h h' : Heap) : Prop where
 keep : ∀ b o,h.get? b = some o -> H b = none -> b ∉ fs -> b ∉ ex -> h'.get? b = some o
 slot : ∀ b o,h.get? b = some o -> H b = none -> b ∈ fs -> b ∉ ex -> ∃ sl,h'.get? b = some { o with slots:=sl }
 free : ∀ b o,h.get? b = some o -> H b = none -> b ∉ ex -> H' b = none
 there : ∀ b o,h.get? b = some o -> b ∉ ex -> ∃ o',h'.get? b = some o'
 tups : ∀ b xs,H b = some (.tup xs) -> H' b = some (.tup xs)
 frzs : ∀ b o u,H b = some (.frz o u) -> H' b = some (.frz o u)
 tbls : ∀ b ps,H b = some (.tbl ps) -> ∃ more,H' b = some (.tbl (ps ++ more))
section
variable {fs fs' ex ex' : List Addr} {H H1 H2 : Hp} {h h1 h2 h' : Heap} {a x e : Addr} {o : HO}
theorem Un.any (u : Un fs ex H H1 h h1) {b : Addr} {ob : Obj} (q : h.get? b = some ob) (n : H b = none) (hx : b ∉ ex) : ∃ sl,h1.get? b = some { ob with slots:=sl }:=by
 by_cases hb : b ∈ fs
 ·exact u.slot b ob q n hb hx
 ·exact ⟨ob.slots,u.keep b ob q n hb hx⟩
theorem Un.trans (a : Un fs ex H H1 h h1) (b : Un fs ex H1 H2 h1 h2) : Un fs ex H H2 h h2 where
 keep:=fun c ob q n hc hx=>b.keep c ob (a.keep c ob q n hc hx) (a.free c ob q n hx) hc hx
 slot:=fun c ob q n hc hx=>by
  obtain ⟨sl,e1⟩:=a.slot c ob q n hc hx
  obtain ⟨sl',e2⟩:=b.slot c _ e1 (a.free c ob q n hx) hc hx
  exact ⟨sl',e2⟩
 free:=fun c ob q n hx=>by
  obtain ⟨o',e1⟩:=a.there c ob q hx
  exact b.free c o' e1 (a.free c ob q n hx) hx
 there:=fun c ob q hx=>by
  obtain ⟨o',e1⟩:=a.there c ob q hx
  exact b.there c o' e1 hx
 tups:=fun c xs q=>b.tups c xs (a.tups c xs q)
 frzs:=fun c ob xs q=>b.frzs c ob xs (a.frzs c ob xs q)
 tbls:=fun c ps q=>by
  obtain ⟨m1,e1⟩:=a.tbls c ps q
  obtain ⟨m2,e2⟩:=b.tbls c _ e1
  exact ⟨m1 ++ m2,by rw [e2,Array.append_assoc]⟩
theorem Un.kept (k : ∀ b u,h.get? b = some u -> h'.get? b = some u) : Un fs ex H H h h' :=
 ⟨fun b ob q _ _ _=>k b ob q,fun b ob q _ _ _=>⟨ob.slots,k b ob q⟩,fun _ _ _ n _=>n,fun b ob q _=>⟨ob,k b ob q⟩,fun _ _ q=>q,fun _ _ _ q=>q,fun _ ps q=>⟨#[],by rw [q]; simp⟩⟩
theorem Un.refl : Un fs ex H H h h:=Un.kept fun _ _ q=>q
theorem Un.laid (k : ∀ b u,h.get? b = some u -> h'.get? b = some u) (hp : h.objs.size <= a) (hn : H a = none) : Un fs ex H (upd H a o) h h' where
 keep:=fun b u q _ _ _=>k b u q
 slot:=fun b u q _ _ _=>⟨u.slots,k b u q⟩
 free:=fun b u q n _=>by rw [upd_ne (Nat.ne_of_lt (Nat.lt_of_lt_of_le (Heap.lt_size q) hp))]; exact n
 there:=fun b u q _=>⟨u,k b u q⟩
 tups:=fun b xs q=>by rw [upd_ne (ne_of_none q hn)]; exact q
 frzs:=fun b u xs q=>by rw [upd_ne (ne_of_none q hn)]; exact q
 tbls:=fun b ps q=>⟨#[],by rw [upd_ne (ne_of_none q hn),q]; simp⟩
theorem Un.write (mu : Mut (H x)) (he : e = x ∨ H e = some (.own x)) (k : ∀ b u,b ≠ e -> h.get? b = some u -> h'.get? b = some u) (heo : ∃ u,h'.get? e = some u) : Un fs ex H (upd H x o) h h':=by
 have hx : ∀ b,H b = none -> b ≠ x:=fun b n z=>by subst z; rw [n] at mu; exact mu
 have hb : ∀ b,H b = none -> b ≠ e:=fun b n z=>by
  subst z
  rcases he with r | r
  ·exact hx b n r
  ·rw [n] at r; cases r
 have hm : ∀ b u,H b = some u -> ¬ Mut (some u) -> b ≠ x:=fun b u q nm z=>by subst z; rw [q] at mu; exact nm mu
 refine ⟨fun b u q n _ _=>k b u (hb b n) q,fun b u q n _ _=>⟨u.slots,k b u (hb b n) q⟩,fun b u q n _=>by rw [upd_ne (hx b n)]; exact n,fun b u q _=>?_,
  fun b xs q=>by rw [upd_ne (hm b _ q fun z=>z)]; exact q,fun b u xs q=>by rw [upd_ne (hm b _ q fun z=>z)]; exact q,fun b ps q=>⟨#[],by rw [upd_ne (hm b _ q fun z=>z),q]; simp⟩⟩
 by_cases hbe : b = e
 ·subst hbe; exact heo
 ·exact ⟨u,k b u hbe q⟩
theorem Un.mono (u : Un fs ex H H1 h h1) (hs : ∀ b ∈ fs,b ∈ fs') (hx : ∀ b ∈ ex,b ∈ ex') : Un fs' ex' H H1 h h1 :=
 ⟨fun b ob q n hb he=>u.keep b ob q n (fun z=>hb (hs b z)) fun z=>he (hx b z),fun _ _ q n _ he=>u.any q n fun z=>he (hx _ z),fun b ob q n he=>u.free b ob q n fun z=>he (hx b z),fun b ob q he=>u.there b ob q fun z=>he (hx b z),u.tups,u.frzs,u.tbls⟩
end
def trk (h : Heap) (H : Hp) : List Addr:=(List.range h.objs.size).filter fun a=>(H a).isSome
def hidT (h : Heap) (H : Hp) : Heap:=PySem.W.hideAll h (trk h H)
theorem hidT_size (h : Heap) (H : Hp) : (hidT h H).objs.size = h.objs.size:=PySem.W.hideAll_size _ _
theorem hidT_get {h : Heap} {H : Hp} {b : Addr} {o : Obj} (e : h.get? b = some o) (n : H b = none) : (hidT h H).get? b = some o :=
 PySem.W.hideAll_get _ e fun hm=>by
  have q : (H b).isSome = true:=(List.mem_filter.mp hm).2
  rw [n] at q; simp at q
theorem of_hidT {h : Heap} {H : Hp} {b : Addr} {o : Obj} (e : (hidT h H).get? b = some o) : h.get? b = some o /\ H b = none:=by
 have e' : h.get? b = some o:=PySem.W.of_hideAll (trk h H) e
 refine ⟨e',?_⟩
 cases q : H b with
 | none=>rfl
 | some x =>
  have hm : b ∈ trk h H:=List.mem_filter.mpr ⟨List.mem_range.mpr (Heap.lt_size e'),by simp [q]⟩
  have z : (hidT h H).get? b = none:=PySem.W.hideAll_none (trk h H) hm
  rw [z] at e; cases e
def allNews (g h : Heap) (L : Addr) : List (Addr × Obj):=(List.range h.objs.size).filterMap fun a=>if a = L ∨ (g.get? a).isSome = true then none else (h.get? a).map fun o=>(a,o)
def rest (g h : Heap) (L d : Addr) : List (Addr × Obj):=(allNews g h L).filter fun p=>decide (p.1 ≠ d)
end L2
namespace L2
open PySem PySem.Spec PyProof.Rows
structure Mod (K : PySem.W.Frag) (mg : Str -> Option Value) (base : Heap) : Prop where
 kin : K.In base
 glob : base.Ns mainGlobals mg
 blt : ∃ mb,base.Ns builtinsNs mb /\ ∀ x : Str,x ≠ "__name__" -> mb x = bootBuiltins x
 nolimit : base.NoLimit
/-- the context: a def's body (or a comprehension's block) running. base: fixed through the whole law; s₀,H₀: the entry; outer: the frames whose slots others may change (a def's callers); stack: all frames that run;
  ex: iterators that were made ahead of the entry and are walked here (a comprehension's); fn: the names whose cells were made at the entry (a def: all; a comprehension's block: its own); calm: not within an except suite; pn: pins that every state bears; xe: what is wanted of an exception that leaves the code -/
structure Cx where
 prog : Program
 w : World
 K : PySem.W.Frag
 mg : Str -> Option Value
 base : Heap
 A : Around
 N : List Str
 s₀ : Shared
 H₀ : Hp
 env : Env
 outer : List Env
 stack : List Env
 ex : List Addr
 fn : Str -> Bool
 calm : Bool
 pn : List (Addr × Obj)
 xe : Value -> Shared -> Prop
def frs (l : List Env) : List Addr:=l.filterMap (·.frame)
abbrev Cx.fs (X : Cx) : List Addr:=frs X.outer
def Vis (sc : Scope) (x : Str) : Prop:=sc.names.lookup x = some .local ∨ sc.names.lookup x = some .cell ∨ sc.names.lookup x = some .free
def Loc (sc : Scope) (x : Str) : Prop:=sc.names.lookup x = some .local ∨ sc.names.lookup x = some .cell
def Look (env : Env) (h : Heap) (m : Str -> Option Value) (x : Str) (u : Value) : Prop :=
 (env.kindOf x = some .local /\ m x = some u) ∨ ((env.kindOf x = some .cell ∨ env.kindOf x = some .free) /\ ∃ c,env.cells.lookup x = some c /\ h.IsCell c (some u))
structure Cx.Ok (X : Cx) : Prop where
 mod : Mod X.K X.mg X.base
 kind : X.env.scope.kind = .function
 glob : X.env.globals = mainGlobals
 blt : X.env.builtins = builtinsNs
 above : X.s₀.heap.objs.size <= X.env.locals
 inj : ∀ x y c,X.env.cells.lookup x = some c -> X.env.cells.lookup y = some c -> x = y
 has : ∀ x,(X.env.kindOf x = some .cell ∨ X.env.kindOf x = some .free) -> ∃ c,X.env.cells.lookup x = some c
 cab : ∀ x c,X.fn x = true -> X.env.cells.lookup x = some c -> X.s₀.heap.objs.size <= c
 hd : X.calm = true -> X.A.handled = none
 frames : X.A.frames = some X.stack
 stk : X.stack = X.outer ∨ (X.stack = X.env :: X.outer /\ X.env.frame = some X.env.locals)
 exf : ∀ b ∈ X.ex,b ≠ X.env.locals /\ ∀ x c,X.env.cells.lookup x = some c -> c ≠ b
 bs : ∀ b o,X.base.get? b = some o -> X.s₀.heap.get? b = some o /\ X.H₀ b = none
 bsz : X.base.objs.size <= X.s₀.heap.objs.size
 noex : ∀ b o,X.base.get? b = some o -> b ∉ X.ex
 exfs : ∀ b ∈ X.ex,b ∉ X.fs
 funs : X.s₀.heap.FunFrames X.base X.outer
 frf : ∀ b ∈ X.fs,X.H₀ b = none
structure Inv (X : Cx) (pins : List (Addr × Obj)) (σ : List (Option V)) (H : Hp) (s : Shared) : Prop where
 ok : X.Ok
 os : s.os = X.s₀.os
 bare : AllBare s.gens
 base : Un X.fs X.ex X.H₀ H X.s₀.heap s.heap
 loc : ∃ m,s.heap.Ns X.env.locals m /\ ∀ (i : Nat) (x : Str) (v : V),X.N[i]? = some x -> σ[i]? = some (some v) -> Vis X.env.scope x -> ∃ u,RelV v u /\ Look X.env s.heap m x u
 cell : ∀ x c,X.env.cells.lookup x = some c -> ∃ v,s.heap.IsCell c v
 free : H X.env.locals = none
 freeC : ∀ x c,X.env.cells.lookup x = some c -> H c = none
 pin : ∀ p ∈ X.pn ++ pins,s.heap.get? p.1 = some p.2 /\ H p.1 = none /\ p.1 ≠ X.env.locals /\ p.1 ∉ X.fs /\ ∀ v,p.2.data ≠ .cell v
 hok : HOk X.prog X.w H s.heap
 len : σ.length = X.N.length
section
variable {X : Cx} {pins : List (Addr × Obj)} {σ : List (Option V)} {H H' : Hp} {s : Shared} {h' : Heap}
theorem Cx.Ok.nofr (ok : X.Ok) {b : Addr} {o : Obj} (e : X.base.get? b = some o) : b ∉ X.fs:=fun hb=>by
 have:=(ok.funs.mem hb).1
 rw [e] at this; cases this
theorem Inv.bs (I : Inv X pins σ H s) : ∀ b o,X.base.get? b = some o -> s.heap.get? b = some o /\ H b = none:=fun b o e =>
 ⟨I.base.keep b o (I.ok.bs b o e).1 (I.ok.bs b o e).2 (I.ok.nofr e) (I.ok.noex b o e),I.base.free b o (I.ok.bs b o e).1 (I.ok.bs b o e).2 (I.ok.noex b o e)⟩
theorem Inv.bk (I : Inv X pins σ H s) : ∀ b o,X.base.get? b = some o -> s.heap.get? b = some o:=fun b o e=>(I.bs b o e).1
theorem Inv.mod (I : Inv X pins σ H s) : Mod X.K X.mg X.base:=I.ok.mod
theorem Inv.kIn (I : Inv X pins σ H s) : X.K.In s.heap:=I.ok.mod.kin.keeps I.bk
theorem Inv.nolimit (I : Inv X pins σ H s) : s.heap.NoLimit:=I.ok.mod.nolimit.keeps I.bk
theorem Inv.fr (I : Inv X pins σ H s) : ∃ m,Fr X.base X.env.locals s.heap m :=
 let ⟨m,hn,_⟩:=I.loc
 ⟨m,hn,I.bk,Nat.le_trans I.ok.bsz I.ok.above⟩
theorem Inv.lt (I : Inv X pins σ H s) : X.env.locals < s.heap.objs.size:=let ⟨_,hn,_⟩:=I.loc; hn.lt
theorem Inv.sz (I : Inv X pins σ H s) : X.s₀.heap.objs.size <= s.heap.objs.size:=Nat.le_trans I.ok.above (Nat.le_of_lt I.lt)
theorem Inv.nofs (I : Inv X pins σ H s) {a : Addr} (h : s.heap.objs.size <= a) : a ∉ X.fs:=fun hb=>by
 obtain ⟨_,o,ho,_⟩:=I.ok.funs.mem hb
 exact absurd (Nat.lt_of_lt_of_le (Heap.lt_size ho) (Nat.le_trans I.sz h)) (Nat.lt_irrefl _)
theorem Inv.cne (I : Inv X pins σ H s) : ∀ x c,X.env.cells.lookup x = some c -> c ≠ X.env.locals:=fun x c e z=>by
 obtain ⟨v,o,ho,hd⟩:=I.cell x c e
 obtain ⟨m,⟨o',es,ep,ho',hd',_⟩,_⟩:=I.loc
 rw [z,ho'] at ho; cases ho; rw [hd'] at hd; cases hd
theorem Inv.funs (I : Inv X pins σ H s) : s.heap.FunFrames X.base X.outer:=by
 have all : ∀ (l : List Env),(∀ b ∈ frs l,b ∈ X.fs) -> X.s₀.heap.FunFrames X.base l -> s.heap.FunFrames X.base l:=by
  intro l
  induction l with
  | nil=>intro _ _; trivial
  | cons env r ih =>
   intro hs hl
   obtain ⟨hk,⟨L,o,hf,hn,ho,hd⟩,hr⟩:=hl
   have hL : L ∈ X.fs:=hs L (by unfold frs; rw [List.filterMap_cons,hf]; exact List.mem_cons_self)
   obtain ⟨sl,e⟩:=I.base.slot L o ho (I.ok.frf L hL) hL fun z=>I.ok.exfs L z hL
   exact ⟨hk,⟨L,_,hf,hn,e,hd⟩,ih (fun b hb=>hs b (by unfold frs; rw [List.filterMap_cons,hf]; exact List.mem_cons_of_mem _ hb)) hr⟩
 exact all X.outer (fun _ hb=>hb) I.ok.funs
theorem Inv.stack (I : Inv X pins σ H s) : s.heap.FunFrames X.base X.stack:=by
 rcases I.ok.stk with e | ⟨e,hf⟩
 ·rw [e]; exact I.funs
 ·rw [e]
  obtain ⟨m,hn,_⟩:=I.loc
  refine .cons (by rw [I.ok.kind]; decide) hf hn ?_ I.funs
  exact Heap.get?_none_of_le (Nat.le_trans I.ok.bsz I.ok.above)
theorem Inv.stkSub (I : Inv X pins σ H s) : ∀ b ∈ frs X.stack,b ∈ X.env.locals :: X.fs:=fun b hb=>by
 rcases I.ok.stk with e | ⟨e,hf⟩
 ·rw [e] at hb; exact List.mem_cons_of_mem _ hb
 ·rw [e] at hb
  unfold frs at hb
  rw [List.filterMap_cons,hf] at hb
  exact hb
theorem Inv.stkFree (I : Inv X pins σ H s) : ∀ b ∈ frs X.stack,H b = none:=fun b hb=>by
 rcases List.mem_cons.mp (I.stkSub b hb) with e | hb
 ·rw [e]; exact I.free
 ·obtain ⟨_,o,ho,_⟩:=I.ok.funs.mem hb
  exact I.base.free b o ho (I.ok.frf b hb) fun z=>I.ok.exfs b z hb
theorem Inv.step {g' : Array GenState} {t' : Nat} {d' : Drawn} {ch : List Addr} (I : Inv X pins σ H s)
  (hch : ∀ b ∈ ch,(b ∈ X.ex ∨ X.s₀.heap.objs.size <= b) /\ b ≠ X.env.locals /\ (∀ x c,X.env.cells.lookup x = some c -> c ≠ b) /\ ∀ p ∈ X.pn ++ pins,p.1 ≠ b)
  (keep : ∀ b o,b ≠ X.env.locals -> b ∉ X.fs -> b ∉ ch -> s.heap.get? b = some o -> H b = none -> h'.get? b = some o)
  (slot : ∀ b o,b ≠ X.env.locals -> b ∈ X.fs -> b ∉ ch -> s.heap.get? b = some o -> H b = none -> ∃ sl,h'.get? b = some { o with slots:=sl }) (free : ∀ b o,b ∉ ch -> s.heap.get? b = some o -> H b = none -> H' b = none)
  (there : ∀ b o,b ∉ ch -> s.heap.get? b = some o -> ∃ o',h'.get? b = some o')
  (tups : ∀ b xs,H b = some (.tup xs) -> H' b = some (.tup xs)) (frzs : ∀ b o u,H b = some (.frz o u) -> H' b = some (.frz o u)) (tbls : ∀ b ps,H b = some (.tbl ps) -> ∃ more,H' b = some (.tbl (ps ++ more)))
  (ns : ∀ m,s.heap.Ns X.env.locals m -> h'.Ns X.env.locals m) (hok : HOk X.prog X.w H' h') (hg : AllBare g') :
  Inv X pins σ H' { s with heap:=h',gens:=g',drawn:=d',toks:=t' }:=by
 have neL : ∀ b o,X.s₀.heap.get? b = some o -> b ≠ X.env.locals:=fun b o e=>Nat.ne_of_lt (Nat.lt_of_lt_of_le (Heap.lt_size e) I.ok.above)
 have neC : ∀ b o,X.s₀.heap.get? b = some o -> b ∉ X.ex -> b ∉ ch:=fun b o e hx hb=>by
  rcases (hch b hb).1 with z | z
  ·exact hx z
  ·exact absurd (Nat.lt_of_lt_of_le (Heap.lt_size e) z) (Nat.lt_irrefl _)
 have cellK : ∀ x c,X.env.cells.lookup x = some c -> ∀ v,s.heap.IsCell c v -> h'.IsCell c v:=fun x c e v ⟨o,ho,hd⟩=>by
  have nch : c ∉ ch:=fun z=>(hch c z).2.2.1 x c e rfl
  by_cases hc : c ∈ X.fs
  ·obtain ⟨sl,q⟩:=slot c o (I.cne x c e) hc nch ho (I.freeC x c e)
   exact ⟨_,q,hd⟩
  ·exact ⟨o,keep c o (I.cne x c e) hc nch ho (I.freeC x c e),hd⟩
 refine ⟨I.ok,I.os,hg,⟨fun b o e n hb hx=>?_,fun b o e n hb hx=>?_,fun b o e n hx=>?_,fun b o e hx=>?_,fun b xs e=>tups b xs (I.base.tups b xs e),fun b o xs e=>frzs b o xs (I.base.frzs b o xs e),fun b ps e=>?_⟩,?_,fun x c e=>?_,?_,fun x c e=>?_,fun p hp=>?_,hok,I.len⟩
 ·exact keep b o (neL b o e) hb (neC b o e hx) (I.base.keep b o e n hb hx) (I.base.free b o e n hx)
 ·obtain ⟨sl,e1⟩:=I.base.slot b o e n hb hx
  obtain ⟨sl',e2⟩:=slot b _ (neL b o e) hb (neC b o e hx) e1 (I.base.free b o e n hx)
  exact ⟨sl',e2⟩
 ·obtain ⟨o',e1⟩:=I.base.there b o e hx
  exact free b o' (neC b o e hx) e1 (I.base.free b o e n hx)
 ·obtain ⟨o',e1⟩:=I.base.there b o e hx
  exact there b o' (neC b o e hx) e1
 ·obtain ⟨m1,e1⟩:=I.base.tbls b ps e
  obtain ⟨m2,e2⟩:=tbls b _ e1
  exact ⟨m1 ++ m2,by rw [e2,Array.append_assoc]⟩
 ·obtain ⟨m,hn,hl⟩:=I.loc
  refine ⟨m,ns m hn,fun i x v e1 e2 e3=>?_⟩
  obtain ⟨u,r,l⟩:=hl i x v e1 e2 e3
  refine ⟨u,r,?_⟩
  rcases l with l | ⟨k,c,e,z⟩
  ·exact .inl l
  ·exact .inr ⟨k,c,e,cellK x c e _ z⟩
 ·obtain ⟨v,z⟩:=I.cell x c e
  exact ⟨v,cellK x c e v z⟩
 ·obtain ⟨m,⟨o,_,_,ho,_⟩,_⟩:=I.loc
  exact free _ o (fun z=>(hch _ z).2.1 rfl) ho I.free
 ·obtain ⟨v,o,ho,hd⟩:=I.cell x c e
  exact free c o (fun z=>(hch c z).2.2.1 x c e rfl) ho (I.freeC x c e)
 ·obtain ⟨e,n,ne,nf,d⟩:=I.pin p hp
  have nch : p.1 ∉ ch:=fun z=>(hch p.1 z).2.2.2 p hp rfl
  exact ⟨keep p.1 p.2 ne nf nch e n,free p.1 p.2 nch e n,ne,nf,d⟩
theorem Inv.un {t' : Nat} (I : Inv X pins σ H s) (u : Un X.fs [] H H' s.heap h') (hok : HOk X.prog X.w H' h') : Inv X pins σ H' { s with heap:=h',toks:=t' }:=by
 obtain ⟨m,⟨o,es,ep,ho,r⟩,_⟩:=id I.loc
 obtain ⟨sl,hL⟩:=u.any ho I.free (by simp)
 exact I.step (g':=s.gens) (d':=s.drawn) (ch:=[]) (fun _ z=>nomatch z) (fun b o _ hb _ e n=>u.keep b o e n hb (by simp)) (fun b o _ hb _ e n=>u.slot b o e n hb (by simp)) (fun b o _ e n=>u.free b o e n (by simp)) (fun b o _ e=>u.there b o e (by simp)) u.tups u.frzs u.tbls (fun m' hm=>by
  obtain ⟨o',es',ep',ho',r'⟩:=hm
  rw [ho] at ho'; cases ho'
  exact ⟨_,es',ep',hL,r'⟩) hok I.bare
theorem Inv.call {g' : Array GenState} {t' : Nat} {d' : Drawn} {ch : List Addr} (I : Inv X pins σ H s) (u : Un (frs X.stack) ch H H' s.heap h') (hok : HOk X.prog X.w H' h') (hg : AllBare g')
  (hch : ∀ b ∈ ch,(b ∈ X.ex ∨ X.s₀.heap.objs.size <= b) /\ b ≠ X.env.locals /\ (∀ x c,X.env.cells.lookup x = some c -> c ≠ b) /\ ∀ p ∈ X.pn ++ pins,p.1 ≠ b) :
  Inv X pins σ H' { s with heap:=h',gens:=g',drawn:=d',toks:=t' }:=by
 obtain ⟨m,⟨o,es,ep,ho,r⟩,_⟩:=id I.loc
 obtain ⟨sl,hL⟩:=u.any ho I.free fun z=>(hch _ z).2.1 rfl
 exact I.step (ch:=ch) hch (fun b o hL hb hc e n=>u.keep b o e n (fun z=>(List.mem_cons.mp (I.stkSub b z)).elim hL hb) hc) (fun b o _ _ hc e n=>u.any e n hc) (fun b o hc e n=>u.free b o e n hc) (fun b o hc e=>u.there b o e hc) u.tups u.frzs u.tbls (fun m' hm=>by
  obtain ⟨o',es',ep',ho',r'⟩:=hm
  rw [ho] at ho'; cases ho'
  exact ⟨_,es',ep',hL,r'⟩) hok hg
theorem Inv.turned {t' : Nat} {it : Addr} (I : Inv X pins σ H s) (k : ∀ b o,b ≠ it -> s.heap.get? b = some o -> h'.get? b = some o) (hn : H it = none) (hL : it ≠ X.env.locals)
  (h1 : it ∈ X.ex ∨ X.s₀.heap.objs.size <= it) (h2 : ∀ x c,X.env.cells.lookup x = some c -> c ≠ it) (h3 : ∀ p ∈ X.pn ++ pins,p.1 ≠ it) : Inv X pins σ H { s with heap:=h',toks:=t' }:=by
 have nit : ∀ b u,H b = some u -> b ≠ it:=fun b u e z=>by rw [z,hn] at e; cases e
 refine I.step (g':=s.gens) (d':=s.drawn) (ch:=[it]) (fun b hb=>?_) (fun b o _ _ hc e _=>k b o (fun z=>hc (by simp [z])) e) (fun b o _ _ hc e _=>⟨o.slots,k b o (fun z=>hc (by simp [z])) e⟩) (fun _ _ _ _ n=>n)
  (fun b o hc e=>⟨o,k b o (fun z=>hc (by simp [z])) e⟩) (fun _ _ e=>e) (fun _ _ _ e=>e) (fun b ps e=>⟨#[],by rw [e]; simp⟩) (fun m hm=>?_) (fun b u e=>?_) I.bare
 ·have e : b = it:=by simpa using hb
  subst e
  exact ⟨h1,hL,h2,h3⟩
 ·obtain ⟨o,es,ep,ho,r⟩:=hm
  exact ⟨o,es,ep,k _ o (Ne.symm hL) ho,r⟩
 ·refine (I.hok b u e).stay (fun c v hc q=>k c v ?_ q) (fun _ q=>q) fun _ _ q=>q
  rcases hc with z | z
  ·rw [z]; exact nit b u e
  ·exact nit c _ z
theorem Inv.tok (I : Inv X pins σ H s) (t : Nat) : Inv X pins σ H { s with toks:=t }:=I.un (h':=s.heap) (t':=t) Un.refl I.hok
theorem Inv.kept {t' : Nat} (I : Inv X pins σ H s) (k : ∀ b u,s.heap.get? b = some u -> h'.get? b = some u) : Inv X pins σ H { s with heap:=h',toks:=t' }:=I.un (Un.kept k) (I.hok.kept k)
theorem Inv.laid {a : Addr} {o : HO} {t' : Nat} (I : Inv X pins σ H s) (k : ∀ b u,s.heap.get? b = some u -> h'.get? b = some u) (hp : s.heap.objs.size <= a) (new : ObjOk X.prog X.w (upd H a o) h' a o) :
  Inv X pins σ (upd H a o) { s with heap:=h',toks:=t' }:=I.un (Un.laid k hp (I.hok.fresh hp)) (I.hok.laid k hp new)
theorem Inv.write {x e : Addr} {o : HO} {t' : Nat} (I : Inv X pins σ H s) (mu : Mut (H x)) (he : e = x ∨ H e = some (.own x)) (k : ∀ b u,b ≠ e -> s.heap.get? b = some u -> h'.get? b = some u) (heo : ∃ u,h'.get? e = some u)
  (new : ObjOk X.prog X.w (upd H x o) h' x o) : Inv X pins σ (upd H x o) { s with heap:=h',toks:=t' }:=I.un (Un.write mu he k heo) (I.hok.write mu he k heo new)
theorem Inv.pins_of {pins' : List (Addr × Obj)} (I : Inv X pins σ H s) (h : ∀ p ∈ pins',s.heap.get? p.1 = some p.2 /\ H p.1 = none /\ p.1 ≠ X.env.locals /\ p.1 ∉ X.fs /\ ∀ v,p.2.data ≠ .cell v) : Inv X pins' σ H s :=
 ⟨I.ok,I.os,I.bare,I.base,I.loc,I.cell,I.free,I.freeC,fun p hp=>(List.mem_append.mp hp).elim (fun z=>I.pin p (List.mem_append_left _ z)) (h p),I.hok,I.len⟩
theorem nodup_ix {N : List Str} (hN : N.Nodup) {i j : Nat} {x : Str} (a : N[i]? = some x) (b : N[j]? = some x) : i = j:=by
 obtain ⟨h1,e1⟩:=List.getElem?_eq_some_iff.mp a
 obtain ⟨h2,e2⟩:=List.getElem?_eq_some_iff.mp b
 exact (List.getElem_inj hN).mp (e1.trans e2.symm)
theorem store_ok2 {M : Model} {A : Around} {E : Value -> Shared -> Prop} {i : Nat} {x : Str} {v : V} {u : Value} {Q : Unit -> Shared -> Prop} (I : Inv X pins σ H s) (hN : X.N.Nodup) (hi : X.N[i]? = some x) (hx : Loc X.env.scope x) (r : RelV v u)
  (h : ∀ s',Inv X pins (σ.set i (some v)) H s' -> (∃ a,Heap.SameBut a s.heap s'.heap /\ (a = X.env.locals ∨ X.env.cells.lookup x = some a)) -> Q () s') (hf : X.fn x = true ∨ X.env.scope.names.lookup x = some .local:=by first | exact .inl rfl | exact .inr rfl | assumption) : wpAny M A (storeName X.env x u) Q E s:=by
 obtain ⟨m,hn,hl⟩:=id I.loc
 have hcls : (X.env.scope.kind == .class || (X.env.scope.kind == .module && X.env.locals != X.env.globals)) = false:=by rw [I.ok.kind]; rfl
 have hiσ : i < σ.length:=by rw [I.len]; exact (List.getElem?_eq_some_iff.mp hi).1
 have cne:=I.cne
 have tracked : ∀ {a : Addr} {h' : Heap},(∃ o,s.heap.get? a = some o /\ H a = none) -> Heap.SameBut a s.heap h' -> HOk X.prog X.w H h':=fun {a h'} ha hs b ob e=>by
  obtain ⟨_,_,hfree⟩:=ha
  refine (I.hok b ob e).stay (fun c w' hc q=>(hs.2 c ?_).trans q) (fun _ q=>q) fun _ _ q=>q
  rintro rfl
  rcases hc with rfl | hc
  ·rw [hfree] at e; cases e
  ·rw [hfree] at hc; cases hc
 rcases hx with hk | hk
 ·refine wpAny_storeName_local hk hn (fun h' hn' hs=>?_) hcls
  obtain ⟨oL,_,_,hoL,_⟩:=id hn
  refine h _ ⟨I.ok,I.os,I.bare,⟨fun b o e n hb hx=>?_,fun b o e n hb hx=>?_,I.base.free,fun b o e hx=>?_,I.base.tups,I.base.frzs,I.base.tbls⟩,⟨_,hn',fun j y v' e1 e2 e3=>?_⟩,fun y c e=>?_,I.free,I.freeC,fun p hp=>?_,tracked ⟨oL,hoL,I.free⟩ hs,by simpa using I.len⟩ ⟨_,hs,.inl rfl⟩
  ·exact (hs.2 b (Nat.ne_of_lt (Nat.lt_of_lt_of_le (Heap.lt_size e) I.ok.above))).trans (I.base.keep b o e n hb hx)
  ·obtain ⟨sl,e1⟩:=I.base.slot b o e n hb hx
   exact ⟨sl,(hs.2 b (Nat.ne_of_lt (Nat.lt_of_lt_of_le (Heap.lt_size e) I.ok.above))).trans e1⟩
  ·obtain ⟨o',e1⟩:=I.base.there b o e hx
   exact ⟨o',(hs.2 b (Nat.ne_of_lt (Nat.lt_of_lt_of_le (Heap.lt_size e) I.ok.above))).trans e1⟩
  ·by_cases hj : j = i
   ·subst hj
    rw [hi] at e1; cases e1
    rw [List.getElem?_set_self hiσ] at e2
    cases e2
    exact ⟨u,r,.inl ⟨hk,by simp⟩⟩
   ·rw [List.getElem?_set_ne (Ne.symm hj)] at e2
    obtain ⟨u',r',q⟩:=hl j y v' e1 e2 e3
    refine ⟨u',r',?_⟩
    rcases q with ⟨k,e⟩ | ⟨k,c,e,z⟩
    ·refine .inl ⟨k,?_⟩
     have : y ≠ x:=fun e=>hj (nodup_ix hN e1 (e ▸ hi))
     simp [this,e]
    ·exact .inr ⟨k,c,e,z.sameBut hs (cne y c e)⟩
  ·obtain ⟨w',z⟩:=I.cell y c e
   exact ⟨w',z.sameBut hs (cne y c e)⟩
  ·obtain ⟨e,n,ne,nf,d⟩:=I.pin p hp
   exact ⟨(hs.2 p.1 ne).trans e,n,ne,nf,d⟩
 ·have hfn : X.fn x = true:=by
   rcases hf with z | z
   ·exact z
   ·rw [z] at hk; cases hk
  obtain ⟨c,hc⟩:=I.ok.has x (.inl hk)
  obtain ⟨w',z⟩:=I.cell x c hc
  refine wpAny_storeName_cell I.ok.kind hk hc z (fun h' hc' hs=>?_)
  obtain ⟨oc,hoc,hocd⟩:=id z
  refine h { s with heap:=h' } ⟨I.ok,I.os,I.bare,⟨fun b o e n hb hx=>?_,fun b o e n hb hx=>?_,I.base.free,fun b o e hx=>?_,I.base.tups,I.base.frzs,I.base.tbls⟩,⟨m,hn.sameBut hs (Ne.symm (cne x c hc)),fun j y v' e1 e2 e3=>?_⟩,fun y c' e=>?_,I.free,I.freeC,fun p hp=>?_,tracked ⟨oc,hoc,I.freeC x c hc⟩ hs,by simpa using I.len⟩ ⟨c,hs,.inr hc⟩
  ·exact (hs.2 b (Nat.ne_of_lt (Nat.lt_of_lt_of_le (Heap.lt_size e) (I.ok.cab x c hfn hc)))).trans (I.base.keep b o e n hb hx)
  ·obtain ⟨sl,e1⟩:=I.base.slot b o e n hb hx
   exact ⟨sl,(hs.2 b (Nat.ne_of_lt (Nat.lt_of_lt_of_le (Heap.lt_size e) (I.ok.cab x c hfn hc)))).trans e1⟩
  ·obtain ⟨o',e1⟩:=I.base.there b o e hx
   exact ⟨o',(hs.2 b (Nat.ne_of_lt (Nat.lt_of_lt_of_le (Heap.lt_size e) (I.ok.cab x c hfn hc)))).trans e1⟩
  ·by_cases hj : j = i
   ·subst hj
    rw [hi] at e1; cases e1
    rw [List.getElem?_set_self hiσ] at e2
    cases e2
    exact ⟨u,r,.inr ⟨.inl hk,c,hc,hc'⟩⟩
   ·rw [List.getElem?_set_ne (Ne.symm hj)] at e2
    obtain ⟨u',r',q⟩:=hl j y v' e1 e2 e3
    refine ⟨u',r',?_⟩
    rcases q with q | ⟨k,c',e,z'⟩
    ·exact .inl q
    ·refine .inr ⟨k,c',e,z'.sameBut hs ?_⟩
     rintro rfl
     exact hj (nodup_ix hN e1 (I.ok.inj _ _ _ e hc ▸ hi))
  ·by_cases hcc : c' = c
   ·subst hcc; exact ⟨_,hc'⟩
   ·obtain ⟨w2,z2⟩:=I.cell y c' e
    exact ⟨w2,z2.sameBut hs hcc⟩
  ·obtain ⟨e,n,ne,nf,d⟩:=I.pin p hp
   refine ⟨(hs.2 p.1 ?_).trans e,n,ne,nf,d⟩
   intro q
   rw [q,hoc] at e
   have q' : oc = p.2:=Option.some.inj e
   exact d w' (by rw [<- q']; exact hocd)
theorem store_ok {M : Model} {A : Around} {E : Value -> Shared -> Prop} {i : Nat} {x : Str} {v : V} {u : Value} {Q : Unit -> Shared -> Prop} (I : Inv X pins σ H s) (hN : X.N.Nodup) (hi : X.N[i]? = some x) (hx : Loc X.env.scope x) (r : RelV v u)
  (h : ∀ s',Inv X pins (σ.set i (some v)) H s' -> Q () s') (hf : X.fn x = true ∨ X.env.scope.names.lookup x = some .local:=by first | exact .inl rfl | exact .inr rfl | assumption) : wpAny M A (storeName X.env x u) Q E s :=
 store_ok2 I hN hi hx r (fun s' I' _=>h s' I') hf
theorem Inv.call' {s' : Shared} {ch : List Addr} (I : Inv X pins σ H s) (ho : s'.os = s.os) (u : Un (frs X.stack) ch H H' s.heap s'.heap) (hok : HOk X.prog X.w H' s'.heap) (hg : AllBare s'.gens)
  (hch : ∀ b ∈ ch,(b ∈ X.ex ∨ X.s₀.heap.objs.size <= b) /\ b ≠ X.env.locals /\ (∀ x c,X.env.cells.lookup x = some c -> c ≠ b) /\ ∀ p ∈ X.pn ++ pins,p.1 ≠ b) : Inv X pins σ H' s':=by
 obtain ⟨h',g',d',t',o'⟩:=s'
 have e : o' = s.os:=ho
 subst e
 exact I.call (g':=g') (t':=t') (d':=d') u hok hg hch
end
abbrev XK:=Value -> Option Addr -> Hp -> Prop
abbrev St:=List (Option V)
abbrev VK:=V -> Hp -> Prop
abbrev TE:=St -> Hp -> VK -> Prop
abbrev TT:=St -> Hp -> (Bool -> Hp -> Prop) -> Prop
abbrev TA:=St -> Hp -> (List V -> Hp -> Prop) -> Prop
structure Ends where
 nx : St -> Hp -> Prop
 rt : VK
 bk : St -> Hp -> Prop:=fun _ _=>False
 ct : St -> Hp -> Prop:=fun _ _=>False
abbrev TS:=Ends -> St -> Hp -> Prop
def EP (X : Cx) (pins : List (Addr × Obj)) (σ : St) (Q : VK) (u : Value) (s' : Shared) : Prop:=∃ v H',Inv X pins σ H' s' /\ RelV v u /\ Q v H'
def TP (X : Cx) (pins : List (Addr × Obj)) (σ : St) (Q : Bool -> Hp -> Prop) (b : Bool) (s' : Shared) : Prop:=∃ H',Inv X pins σ H' s' /\ Q b H'
def AP (X : Cx) (pins : List (Addr × Obj)) (σ : St) (Q : List V -> Hp -> Prop) (us : List Value) (s' : Shared) : Prop:=∃ vs H',Inv X pins σ H' s' /\ Vals vs us /\ Q vs H'
def SP (X : Cx) (pins : List (Addr × Obj)) (D : Ends) (f : Flow) (s' : Shared) : Prop :=
 match f with
 | .next=>∃ σ' H',Inv X pins σ' H' s' /\ D.nx σ' H'
 | .brk=>∃ σ' H',Inv X pins σ' H' s' /\ D.bk σ' H'
 | .cont=>∃ σ' H',Inv X pins σ' H' s' /\ D.ct σ' H'
 | .ret u=>∃ v σ' H',Inv X pins σ' H' s' /\ RelV v u /\ D.rt v H'
def PE (X : Cx) (e : Expr) (t : TE) : Prop :=
 ∀ (pins : List (Addr × Obj)) (s : Shared) (σ : St) (H : Hp) (Q : VK),Inv X pins σ H s -> t σ H Q -> wpAny (model X.prog X.w) X.A (eval e X.env) (EP X pins σ Q) X.xe s
def PT (X : Cx) (e : Expr) (t : TT) : Prop :=
 ∀ (pins : List (Addr × Obj)) (s : Shared) (σ : St) (H : Hp) (Q : Bool -> Hp -> Prop),Inv X pins σ H s -> t σ H Q -> wpAny (model X.prog X.w) X.A (isTrue e X.env (eval e X.env)) (TP X pins σ Q) X.xe s
def PW (X : Cx) (e : Expr) (t : TT) : Prop :=
 ∀ (whole : Sem Value) (pins : List (Addr × Obj)) (s : Shared) (σ : St) (H : Hp) (Q : Bool -> Hp -> Prop),Inv X pins σ H s -> t σ H Q -> wpAny (model X.prog X.w) X.A (isTrue e X.env whole) (TP X pins σ Q) X.xe s
theorem PW.pt {X : Cx} {e : Expr} {t : TT} (h : PW X e t) : PT X e t:=h _
def PA (X : Cx) (es : List Expr) (t : TA) : Prop :=
 ∀ (pos : Pos) (pins : List (Addr × Obj)) (s : Shared) (σ : St) (H : Hp) (Q : List V -> Hp -> Prop),Inv X pins σ H s -> t σ H Q -> wpAny (model X.prog X.w) X.A (spliced (backTo pos (starEach es X.env))) (AP X pins σ Q) X.xe s
def PS (X : Cx) (st : Stmt) (t : TS) : Prop :=
 ∀ (pins : List (Addr × Obj)) (s : Shared) (σ : St) (H : Hp) (D : Ends),Inv X pins σ H s -> t D σ H -> wpAny (model X.prog X.w) X.A (exec st X.env) (SP X pins D) X.xe s
def PSs (X : Cx) (st : List Stmt) (t : TS) : Prop :=
 ∀ (pins : List (Addr × Obj)) (s : Shared) (σ : St) (H : Hp) (D : Ends),Inv X pins σ H s -> t D σ H -> wpAny (model X.prog X.w) X.A (execs st X.env) (SP X pins D) X.xe s
theorem thn {α : Type} {t : Sem α} {Q Q' : α -> Shared -> Prop} {M : Model} {A : Around} {E : Value -> Shared -> Prop} {s : Shared} (h : wpAny M A t Q E s) (hQ : ∀ a s,Q a s -> Q' a s) : wpAny M A t Q' E s:=wpAny_mono h hQ fun _ _ x=>x
end L2
namespace L2
open PySem PySem.Spec PyProof.Rows
section
variable {X : Cx}
def tVar (i : Nat) : TE:=fun σ H Q=>∃ v,σ[i]? = some (some v) /\ Q v H
def tC (v : V) : TE:=fun _ H Q=>Q v H
theorem pe_var {i : Nat} {x : Str} {pos : Pos} (hN : X.N[i]? = some x) (hv : Vis X.env.scope x) (hd : (x == ("__debug__" : Str)) = false:=by decide) (hcd : (x == ("__classdict__" : Str)) = false:=by decide) : PE X (.Name x pos) (tVar i):=by
 intro pins s σ H Q I h
 obtain ⟨v,e,h⟩:=h
 obtain ⟨m,hn,hl⟩:=I.loc
 obtain ⟨u,r,l⟩:=hl i x v hN e hv
 have fin : EP X pins σ Q u s:=⟨v,H,I,r,h⟩
 rcases l with ⟨hk,hm⟩ | ⟨hk,c,hc,hcell⟩
 ·exact wpAny_Name (wpAny_loadName_local I.ok.kind hk hn hm fin) hd
 ·rcases hk with hk | hk
  ·exact wpAny_Name (wpAny_loadName_cell I.ok.kind hk hc hcell fin) hd
  ·exact wpAny_Name (wpAny_loadName_free I.ok.kind hk hc hcell fin hcd) hd
theorem pe_int {i j pos} : PE X (.Constant (.int i) j pos) (tC (.int i)):=fun _ _ _ H _ I h=>wpAny_Constant_int ⟨.int i,H,I.tok _,⟨_,rfl⟩,h⟩
theorem pe_bl {b j pos} : PE X (.Constant (.bool b) j pos) (tC (.bl b)):=fun _ _ _ H _ I h=>Constant_bool ⟨.bl b,H,I,rfl,h⟩
theorem pe_non {j pos} : PE X (.Constant .none j pos) (tC .non):=fun _ _ _ H _ I h=>Constant_none ⟨.non,H,I,rfl,h⟩
theorem pe_str {x j pos} : PE X (.Constant (.str x) j pos) (tC (.str x)):=fun _ _ _ H _ I h=>Calls.Constant_str ⟨.str x,H,I.tok _,⟨_,rfl⟩,h⟩
def Gl (X : Cx) (x : Str) : Prop:=X.env.kindOf x = some .globalImplicit
theorem ld_glob {E : Value -> Shared -> Prop} {pins : List (Addr × Obj)} {s : Shared} {σ : St} {H : Hp} {x : Str} {u : Value} {pos : Pos} {Q : Value -> Shared -> Prop} (I : Inv X pins σ H s) (hg : Gl X x) (hm : X.mg x = some u) (h : Q u s)
  (hd : (x == ("__debug__" : Str)) = false:=by decide) : wpAny (model X.prog X.w) X.A (eval (.Name x pos) X.env) Q E s :=
 Calls.Name_function_global I.ok.kind hg (Calls.loadGlobal_global (by rw [I.ok.glob]; exact I.mod.glob.keeps I.bk) hm h) hd
theorem ld_blt {E : Value -> Shared -> Prop} {pins : List (Addr × Obj)} {s : Shared} {σ : St} {H : Hp} {x : Str} {u : Value} {pos : Pos} {Q : Value -> Shared -> Prop} (I : Inv X pins σ H s) (hg : Gl X x) (hm : X.mg x = none) (hv : bootBuiltins x = some u) (h : Q u s)
  (hn : x ≠ "__name__":=by decide) (hd : (x == ("__debug__" : Str)) = false:=by decide) : wpAny (model X.prog X.w) X.A (eval (.Name x pos) X.env) Q E s:=by
 obtain ⟨mb,h1,h2⟩:=I.mod.blt
 exact Calls.Name_function_global I.ok.kind hg (Calls.loadGlobal_builtin (by rw [I.ok.glob]; exact I.mod.glob.keeps I.bk) hm (by rw [I.ok.blt]; exact h1.keeps I.bk) ((h2 x hn).trans hv) h) hd
theorem pe_glob {x : Str} {v : V} {u : Value} {pos : Pos} (hg : Gl X x) (hm : X.mg x = some u) (r : RelV v u) (hd : (x == ("__debug__" : Str)) = false:=by decide) : PE X (.Name x pos) (tC v) :=
 fun _ _ _ H _ I h=>ld_glob I hg hm ⟨v,H,I,r,h⟩ hd
theorem pe_bltn {x : Str} {v : V} {u : Value} {pos : Pos} (hg : Gl X x) (hm : X.mg x = none) (hv : bootBuiltins x = some u) (r : RelV v u) (hn : x ≠ "__name__":=by decide) (hd : (x == ("__debug__" : Str)) = false:=by decide) : PE X (.Name x pos) (tC v) :=
 fun _ _ _ H _ I h=>ld_blt I hg hm hv ⟨v,H,I,r,h⟩ hn hd
variable {a b : Expr} {ta tb : TE} {pos : Pos}
def tB (t : TE) : TT:=fun σ H Q=>t σ H fun x H1=>∃ c,x = .bl c /\ Q c H1
theorem pt_val {e : Expr} {t : TE} (h : PE X e t) (he : ∀ whole,isTrue e X.env whole = (do let v <- whole; standAt e.pos; holding [v] (truthy v)):=by intro _; rfl) : PT X e (tB t):=by
 intro pins s σ H Q I hw
 refine isTrue_plain (thn (h pins s σ H _ I hw) fun v s1 ⟨x,H1,I1,r1,q1⟩=>?_) (he _)
 obtain ⟨d,rfl,q⟩:=q1
 cases r1
 exact wpAny_truthy_bool ⟨H1,I1,q⟩
variable {tA tB' : TT} {rest : List Expr}
def tAnd (t u : TT) : TT:=fun σ H Q=>t σ H fun c H1=>if c = true then u σ H1 Q else Q false H1
def tOr (t u : TT) : TT:=fun σ H Q=>t σ H fun c H1=>if c = true then Q true H1 else u σ H1 Q
def tNot (t : TT) : TT:=fun σ H Q=>t σ H fun c H1=>Q (!c) H1
theorem pw_and1 (ha : PT X a tA) : PW X (.BoolOp .And [a] pos) tA:=by
 intro wh pins s σ H Q I h
 refine isTrue_and (thn (ha pins s σ H Q I h) fun c s1 e=>?_)
 cases c with
 | true=>exact isTrue_and_nil e
 | false=>exact e
theorem pw_or1 (ha : PT X a tA) : PW X (.BoolOp .Or [a] pos) tA:=by
 intro wh pins s σ H Q I h
 refine isTrue_or (thn (ha pins s σ H Q I h) fun c s1 e=>?_)
 cases c with
 | false=>exact isTrue_or_nil e
 | true=>exact e
theorem pw_and (ha : PT X a tA) (hb : PW X (.BoolOp .And (b :: rest) pos) tB') : PW X (.BoolOp .And (a :: b :: rest) pos) (tAnd tA tB'):=by
 intro wh pins s σ H Q I h
 refine isTrue_and (thn (ha pins s σ H _ I h) fun c s1 ⟨H1,I1,q1⟩=>?_)
 cases c with
 | true=>exact hb wh pins s1 σ H1 Q I1 q1
 | false=>exact ⟨H1,I1,q1⟩
theorem pw_or (ha : PT X a tA) (hb : PW X (.BoolOp .Or (b :: rest) pos) tB') : PW X (.BoolOp .Or (a :: b :: rest) pos) (tOr tA tB'):=by
 intro wh pins s σ H Q I h
 refine isTrue_or (thn (ha pins s σ H _ I h) fun c s1 ⟨H1,I1,q1⟩=>?_)
 cases c with
 | true=>exact ⟨H1,I1,q1⟩
 | false=>exact hb wh pins s1 σ H1 Q I1 q1
theorem pt_not (ha : PT X a tA) : PT X (.UnaryOp .Not a pos) (tNot tA):=by
 intro pins s σ H Q I h
 exact isTrue_not (ha pins s σ H (fun c H1=>Q (!c) H1) I h)
def tAndV (ta tb : TE) : TE:=fun σ H Q=>ta σ H fun x H1=>∃ c,x = .bl c /\ if c = true then tb σ H1 Q else Q (.bl false) H1
def tOrV (ta tb : TE) : TE:=fun σ H Q=>ta σ H fun x H1=>∃ c,x = .bl c /\ if c = true then Q (.bl true) H1 else tb σ H1 Q
theorem pe_one {op} {t : TE} (h : PE X a t) : PE X (.BoolOp op [a] pos) t:=fun pins s σ H Q I hw=>BoolOp_one (h pins s σ H Q I hw)
theorem pe_and (ha : PE X a ta) (hb : PE X (.BoolOp .And (b :: rest) pos) tb) : PE X (.BoolOp .And (a :: b :: rest) pos) (tAndV ta tb):=by
 intro pins s σ H Q I h
 refine BoolOp_and (thn (ha pins s σ H _ I h) fun v s1 ⟨x,H1,I1,r1,q1⟩=>?_)
 obtain ⟨c,rfl,q1⟩:=q1
 cases r1
 refine wpAny_truthy_bool ?_
 cases c with
 | true=>exact hb pins s1 σ H1 Q I1 q1
 | false=>exact ⟨.bl false,H1,I1,rfl,q1⟩
theorem pe_or (ha : PE X a ta) (hb : PE X (.BoolOp .Or (b :: rest) pos) tb) : PE X (.BoolOp .Or (a :: b :: rest) pos) (tOrV ta tb):=by
 intro pins s σ H Q I h
 refine BoolOp_or (thn (ha pins s σ H _ I h) fun v s1 ⟨x,H1,I1,r1,q1⟩=>?_)
 obtain ⟨c,rfl,q1⟩:=q1
 cases r1
 refine wpAny_truthy_bool ?_
 cases c with
 | false=>exact hb pins s1 σ H1 Q I1 q1
 | true=>exact ⟨.bl true,H1,I1,rfl,q1⟩
def tIf (t : TT) (ta tb : TE) : TE:=fun σ H Q=>t σ H fun c H1=>if c = true then ta σ H1 Q else tb σ H1 Q
theorem pe_ifExp {c : Expr} (hc : PT X c tA) (ha : PE X a ta) (hb : PE X b tb) : PE X (.IfExp c a b pos) (tIf tA ta tb):=by
 intro pins s σ H Q I h
 refine wpAny_IfExp (thn (hc pins s σ H _ I h) fun d s1 ⟨H1,I1,q1⟩=>?_)
 cases d with
 | true=>exact ha pins s1 σ H1 Q I1 q1
 | false=>exact hb pins s1 σ H1 Q I1 q1
end
end L2
namespace L2
open PySem PySem.Spec PyProof.Rows
def SqL (K : PySem.W.Frag) (H : Hp) (a : Addr) (xs : List V) : Prop :=
 Rd H a (.lst xs) ∨
  ∃ (o : Obj) (its : Array Value) (n : Nat),K.lookup a = some o /\ o.cls = .type "list" /\ o.dict = none /\ o.data = .seq its n /\ its.size <= sizeLine /\ Vals xs its.toList
def SqT (K : PySem.W.Frag) (H : Hp) (a : Addr) (xs : List V) : Prop :=
 Rd H a (.tup xs) ∨
  ∃ (o : Obj) (its : Array Value) (n : Nat),K.lookup a = some o /\ o.cls = .type "tuple" /\ o.data = .seq its n /\ its.size <= sizeLine /\ Vals xs its.toList
def absV : Value -> Option V
 | .none=>some .non
 | .bool b=>some (.bl b)
 | .int i _=>some (.int i)
 | .str x _=>some (.str x)
 | .bytes b _=>some (.byt b)
 | .float b _=>some (.flt b)
 | .ref a=>some (.ref a)
 | .type n=>some (.ty n)
 | _=>none
theorem RelV.abs {x : V} {u : Value} (r : RelV x u) : absV u = some x:=by
 cases x with
 | non=>cases r; rfl
 | bl _=>cases r; rfl
 | int _=>obtain ⟨t,rfl⟩:=r; rfl
 | str _=>obtain ⟨t,rfl⟩:=r; rfl
 | byt _=>obtain ⟨t,rfl⟩:=r; rfl
 | flt _=>obtain ⟨t,rfl⟩:=r; rfl
 | ref _=>cases r; rfl
 | ty _=>cases r; rfl
theorem RelV.inj {x y : V} {u : Value} (r : RelV x u) (q : RelV y u) : x = y:=Option.some.inj (r.abs.symm.trans q.abs)
theorem Vals.inj : ∀ {xs ys : List V} {us : List Value},Vals xs us -> Vals ys us -> xs = ys
 | _,_,_,.nil,.nil=>rfl
 | _,_,_,.cons r t,.cons r' t'=>by rw [r.inj r',Vals.inj t t']
section
variable {X : Cx} {pins : List (Addr × Obj)} {σ : St} {H : Hp} {s : Shared} {a : Addr} {xs ys : List V}
theorem SqL.of {K : PySem.W.Frag} (h : H a = some (.lst xs)) : SqL K H a xs:=.inl (.inl h)
theorem SqT.of {K : PySem.W.Frag} (h : H a = some (.tup xs)) : SqT K H a xs:=.inl (.inl h)
theorem Inv.list (I : Inv X pins σ H s) (h : SqL X.K H a xs) : ∃ its : List Value,Vals xs its /\ PlainL s.heap a its.toArray /\ xs.length <= sizeLine:=by
 rcases h with h | ⟨o,its,n,hk,hc,hd,hs,hz,r⟩
 ·obtain ⟨z,its,n,r,e⟩:=h.ok I.hok
  exact ⟨its,r,⟨_,n,e,rfl,rfl,rfl⟩,z⟩
 ·refine ⟨its.toList,r,⟨o,n,I.kIn a o hk,hc,hd,by simpa using hs⟩,?_⟩
  have e:=r.length
  simp only [Array.length_toList] at e
  omega
theorem Inv.tuple (I : Inv X pins σ H s) (h : SqT X.K H a xs) : ∃ its : List Value,Vals xs its /\ IsTup s.heap a its.toArray /\ xs.length <= sizeLine:=by
 rcases h with h | ⟨o,its,n,hk,hc,hs,hz,r⟩
 ·obtain ⟨z,its,r,p⟩:=h.ok I.hok
  exact ⟨its,r,p,z⟩
 ·refine ⟨its.toList,r,⟨o,I.kIn a o hk,hc,n,by simpa using hs⟩,?_⟩
  have e:=r.length
  simp only [Array.length_toList] at e
  omega
theorem Inv.list_inj (I : Inv X pins σ H s) (h : SqL X.K H a xs) (h' : SqL X.K H a ys) : xs = ys:=by
 obtain ⟨its,r,⟨o,n,e,_,_,d⟩,_⟩:=I.list h
 obtain ⟨its',r',⟨o',n',e',_,_,d'⟩,_⟩:=I.list h'
 rw [e] at e'; cases e'
 rw [d] at d'
 injection d' with d1 _
 have : its = its':=by simpa using congrArg Array.toList d1
 subst this
 exact r.inj r'
theorem Inv.tuple_inj (I : Inv X pins σ H s) (h : SqT X.K H a xs) (h' : SqT X.K H a ys) : xs = ys:=by
 obtain ⟨its,r,⟨o,e,_,n,d⟩,_⟩:=I.tuple h
 obtain ⟨its',r',⟨o',e',_,n',d'⟩,_⟩:=I.tuple h'
 rw [e] at e'; cases e'
 rw [d] at d'
 injection d' with d1 _
 have : its = its':=by simpa using congrArg Array.toList d1
 subst this
 exact r.inj r'
end
abbrev Cx.wish (X : Cx) (E : Value -> Shared -> Prop) : Cx:={ X with xe:=E }
abbrev Cx.nox (X : Cx) : Cx:=X.wish fun _ _=>False
theorem Cx.Ok.wish {X : Cx} (ok : X.Ok) (E : Value -> Shared -> Prop) : (X.wish E).Ok :=
 ⟨ok.mod,ok.kind,ok.glob,ok.blt,ok.above,ok.inj,ok.has,ok.cab,ok.hd,ok.frames,ok.stk,ok.exf,ok.bs,ok.bsz,ok.noex,ok.exfs,ok.funs,ok.frf⟩
theorem Cx.Ok.unwish {X : Cx} {E : Value -> Shared -> Prop} (ok : (X.wish E).Ok) : X.Ok :=
 ⟨ok.mod,ok.kind,ok.glob,ok.blt,ok.above,ok.inj,ok.has,ok.cab,ok.hd,ok.frames,ok.stk,ok.exf,ok.bs,ok.bsz,ok.noex,ok.exfs,ok.funs,ok.frf⟩
section
variable {X : Cx} {pins : List (Addr × Obj)} {σ : St} {H : Hp} {s : Shared} {E : Value -> Shared -> Prop}
theorem Inv.wish (I : Inv X pins σ H s) (E : Value -> Shared -> Prop) : Inv (X.wish E) pins σ H s:=⟨I.ok.wish E,I.os,I.bare,I.base,I.loc,I.cell,I.free,I.freeC,I.pin,I.hok,I.len⟩
theorem Inv.unwish (I : Inv (X.wish E) pins σ H s) : Inv X pins σ H s:=⟨I.ok.unwish,I.os,I.bare,I.base,I.loc,I.cell,I.free,I.freeC,I.pin,I.hok,I.len⟩
theorem SP.unwish {D : Ends} {f : Flow} {s' : Shared} (h : SP (X.wish E) pins D f s') : SP X pins D f s':=by
 cases f with
 | next=>obtain ⟨σ',H',I,q⟩:=h; exact ⟨σ',H',I.unwish,q⟩
 | brk=>obtain ⟨σ',H',I,q⟩:=h; exact ⟨σ',H',I.unwish,q⟩
 | cont=>obtain ⟨σ',H',I,q⟩:=h; exact ⟨σ',H',I.unwish,q⟩
 | ret u=>obtain ⟨v,σ',H',I,r,q⟩:=h; exact ⟨v,σ',H',I.unwish,r,q⟩
theorem PE.nox {e : Expr} {t : TE} (h : PE X.nox e t) : PE X e t:=fun pins s σ H Q I hw =>
 wpAny_mono (h pins s σ H Q (I.wish _) hw) (fun _ _ ⟨v,H',I',r,q⟩=>⟨v,H',I'.unwish,r,q⟩) fun _ _ z=>False.elim z
theorem PT.nox {e : Expr} {t : TT} (h : PT X.nox e t) : PT X e t:=fun pins s σ H Q I hw =>
 wpAny_mono (h pins s σ H Q (I.wish _) hw) (fun _ _ ⟨H',I',q⟩=>⟨H',I'.unwish,q⟩) fun _ _ z=>False.elim z
theorem PSs.nox {st : List Stmt} {t : TS} (h : PSs X.nox st t) : PSs X st t:=fun pins s σ H D I hw =>
 wpAny_mono (h pins s σ H D (I.wish _) hw) (fun _ _ q=>q.unwish) fun _ _ z=>False.elim z
end
section
variable {X : Cx} {st : Stmt} {rest : List Stmt} {t u : TS} {e : Expr} {te : TE} {pos : Pos}
def tNext : TS:=fun D σ H=>D.nx σ H
def tSeq (t u : TS) : TS:=fun D σ H=>t { D with nx:=u D } σ H
theorem pss_nil : PSs X [] tNext:=fun _ _ σ H _ I h=>wpAny_execs_nil ⟨σ,H,I,h⟩
theorem pss_cons (h1 : PS X st t) (h2 : PSs X rest u) : PSs X (st :: rest) (tSeq t u):=by
 intro pins s σ H D I h
 refine wpAny_execs_cons (thn (h1 pins s σ H { D with nx:=u D } I h) fun f s1 q=>?_)
 cases f with
 | next =>
  obtain ⟨σ',H',I',q⟩:=q
  exact h2 pins s1 σ' H' D I' q
 | ret v=>exact q
 | brk=>exact q
 | cont=>exact q
theorem pss_one (h1 : PS X st t) : PSs X [st] t:=by
 intro pins s σ H D I h
 refine wpAny_execs_cons (thn (h1 pins s σ H D I h) fun f s1 q=>?_)
 cases f with
 | next=>exact wpAny_execs_nil q
 | ret v=>exact q
 | brk=>exact q
 | cont=>exact q
def tCont : TS:=fun D σ H=>D.ct σ H
theorem ps_continue : PS X (.Continue pos) tCont:=fun _ _ σ H _ I h=>wpAny_Continue ⟨σ,H,I,h⟩
theorem Inv.quiet {pins : List (Addr × Obj)} {σ : St} {H : Hp} {s : Shared} (I : Inv X pins σ H s) : interactive X.env = false:=by simp [interactive,I.ok.kind]
def tDrop (te : TE) : TS:=fun D σ H=>te σ H fun _ H1=>D.nx σ H1
theorem ps_expr (he : PE X e te) (hs : swapsWith e none pos.line X.env = pure false:=by rfl) : PS X (.Expr e pos) (tDrop te):=by
 intro pins s σ H D I h
 exact wpAny_Expr_any (thn (he pins s σ H _ I h) fun v s1 ⟨x,H1,I1,r1,q1⟩=>⟨σ,H1,I1,q1⟩) I.quiet hs
def tRet (te : TE) : TS:=fun D σ H=>te σ H D.rt
theorem ps_ret (he : PE X e te) : PS X (.Return (some e) pos) (tRet te):=by
 intro pins s σ H D I h
 exact wpAny_Return_some (thn (he pins s σ H _ I h) fun v s1 ⟨x,H1,I1,r1,q1⟩=>⟨x,σ,H1,I1,r1,q1⟩)
def tIfS (c : TT) (t u : TS) : TS:=fun D σ H=>c σ H fun b H1=>if b = true then t D σ H1 else u D σ H1
theorem ps_if {c : Expr} {a b : List Stmt} {tc : TT} (hc : PT X c tc) (ha : PSs X a t) (hb : PSs X b u) : PS X (.If c a b pos) (tIfS tc t u):=by
 intro pins s σ H D I h
 refine wpAny_If (thn (hc pins s σ H _ I h) fun d s1 ⟨H1,I1,q1⟩=>?_)
 cases d with
 | true=>exact ha pins s1 σ H1 D I1 q1
 | false=>exact hb pins s1 σ H1 D I1 q1
end
abbrev TG:=V -> St -> Hp -> (St -> Hp -> Prop) -> Prop
abbrev TGs:=List V -> St -> Hp -> (St -> Hp -> Prop) -> Prop
def PG (X : Cx) (target : Expr) (t : TG) : Prop :=
 ∀ (pins : List (Addr × Obj)) (s : Shared) (σ : St) (H : Hp) (v : V) (u : Value) (Q : St -> Hp -> Prop),Inv X pins σ H s -> RelV v u -> t v σ H Q ->
  wpAny (model X.prog X.w) X.A (assign target X.env u) (fun _ s'=>∃ σ' H',Inv X pins σ' H' s' /\ Q σ' H') X.xe s
def PGs (X : Cx) (ts : List Expr) (t : TGs) : Prop :=
 ∀ (pins : List (Addr × Obj)) (s : Shared) (σ : St) (H : Hp) (vs : List V) (us : List Value) (Q : St -> Hp -> Prop),Inv X pins σ H s -> Vals vs us -> t vs σ H Q ->
  wpAny (model X.prog X.w) X.A (assignInOrder ((assignEach ts X.env).map (·.2)) us) (fun _ s'=>∃ σ' H',Inv X pins σ' H' s' /\ Q σ' H') X.xe s
abbrev TSet:=V -> V -> V -> Hp -> (Hp -> Prop) -> Prop
def PSet (X : Cx) (t : TSet) : Prop :=
 ∀ (pins : List (Addr × Obj)) (s : Shared) (σ : St) (H : Hp) (o i v : V) (ov iv u : Value) (Q : Hp -> Prop),Inv X pins σ H s -> RelV o ov -> RelV i iv -> RelV v u -> t o i v H Q ->
  wpAny (model X.prog X.w) X.A (setItem ov iv u) (fun _ s'=>∃ H',Inv X pins σ H' s' /\ Q H') X.xe s
abbrev TIp:=V -> V -> Hp -> VK -> Prop
def PIp (X : Cx) (op : Operator) (t : TIp) : Prop :=
 ∀ (pins : List (Addr × Obj)) (s : Shared) (σ : St) (H : Hp) (x y : V) (v u : Value) (Q : VK),Inv X pins σ H s -> RelV x v -> RelV y u -> t x y H Q ->
  wpAny (model X.prog X.w) X.A (inplaceOp op v u) (EP X pins σ Q) X.xe s
section
variable {X : Cx} {pos : Pos}
def gName (i : Nat) : TG:=fun v σ H Q=>Q (σ.set i (some v)) H
theorem pg_name {i : Nat} {x : Str} (hN : X.N.Nodup) (hi : X.N[i]? = some x) (hx : Loc X.env.scope x) (hf : X.fn x = true ∨ X.env.scope.names.lookup x = some .local:=by first | exact .inl rfl | exact .inr rfl | assumption) : PG X (.Name x pos) (gName i):=by
 intro pins s σ H v u Q I r h
 exact wpAny_assign_Name (store_ok I hN hi hx r (fun s' I'=>⟨_,H,I',h⟩) hf)
def gNil : TGs:=fun vs σ H Q=>vs = [] /\ Q σ H
def gCons (t : TG) (u : TGs) : TGs:=fun vs σ H Q=>∃ v r,vs = v :: r /\ t v σ H fun σ' H'=>u r σ' H' Q
theorem pgs_nil : PGs X [] gNil:=by
 intro pins s σ H vs us Q I r h
 obtain ⟨e,h⟩:=h
 subst e
 cases r
 exact assignInOrder_nil ⟨σ,H,I,h⟩
theorem pgs_cons {e : Expr} {es : List Expr} {t : TG} {u : TGs} (h1 : PG X e t) (h2 : PGs X es u)
  (hs : (assignEach (e :: es) X.env).map (·.2) = assign e X.env :: (assignEach es X.env).map (·.2):=by rfl) : PGs X (e :: es) (gCons t u):=by
 intro pins s σ H vs us Q I r h
 obtain ⟨v,vr,e1,h⟩:=h
 subst e1
 cases r with
 | cons r rr =>
  rw [hs]
  refine assignInOrder_cons (thn (h1 pins s σ H _ _ _ I r h) fun _ s1 ⟨σ1,H1,I1,q1⟩=>?_)
  exact h2 pins s1 σ1 H1 _ _ Q I1 rr q1
def gTup (K : PySem.W.Frag) (n : Nat) (t : TGs) : TG:=fun v σ H Q=>∃ a xs,v = .ref a /\ SqT K H a xs /\ xs.length = n /\ t xs σ H Q
theorem pg_tup {es : List Expr} {k : Nat} {t : TGs} {n : Nat} (hc : X.calm = true) (h : PGs X es t)
  (hn : (assignEach es X.env).length = n:=by rfl) (hst : (assignEach es X.env).findIdx? (·.1) = none:=by rfl) : PG X (.Tuple es k pos) (gTup X.K n t):=by
 intro pins s σ H v u Q I r hw
 obtain ⟨a,xs,e1,hq,hl,hw⟩:=hw
 subst e1
 cases r
 obtain ⟨its,rv,ht,hz⟩:=I.tuple hq
 refine assign_Tuple_tuple (I.ok.hd hc) ht (by simp [hn,<- hl,rv.length]) hst fun h' hx=>?_
 have I1 : Inv X pins σ H { s with heap:=h' }:=I.kept (t':=s.toks) fun b o e=>hx b o (Nat.ne_of_lt (Heap.lt_size e)) e
 exact h pins _ σ H xs _ Q I1 (by simpa using rv) hw
def gSub (to ti : TE) (t : TSet) : TG:=fun v σ H Q=>to σ H fun o H1=>ti σ H1 fun i H2=>t o i v H2 fun H3=>Q σ H3
theorem pg_sub {o i : Expr} {to ti : TE} {t : TSet} (ho : PE X o to) (hi : PE X i ti) (hs : PSet X t)
  (ha : ∀ v,assign (.Subscript o i pos) X.env v = (do
   let ov <- holding [v] (eval o X.env)
   let iv <- holding [v,ov] (eval i X.env)
   standAt pos
   holding [v,ov,iv] (setItem ov iv v)
   release [v,ov,iv] []):=by intro _; rfl) : PG X (.Subscript o i pos) (gSub to ti t):=by
 intro pins s σ H v u Q I r h
 rw [ha]
 refine wpAny_bind (wpAny_holding (thn (ho pins s σ H _ I h) fun ov s1 ⟨x,H1,I1,r1,q1⟩=>?_))
 refine wpAny_bind (wpAny_holding (thn (hi pins s1 σ H1 _ I1 q1) fun iv s2 ⟨y,H2,I2,r2,q2⟩=>?_))
 refine wpAny_bind (wpAny_standAt (wpAny_bind (wpAny_holding (thn (hs pins s2 σ H2 x y v ov iv u _ I2 r1 r2 r q2) fun _ s3 ⟨H3,I3,q3⟩=>?_))))
 exact wpAny_release ⟨σ,H3,I3,q3⟩
def tAsg (te : TE) (g : TG) : TS:=fun D σ H=>te σ H fun x H1=>g x σ H1 D.nx
theorem ps_asg {tg e : Expr} {te : TE} {g : TG} (he : PE X e te) (hg : PG X tg g) (hs : swapsWithSole [tg] e pos.line X.env = pure false:=by rfl) (hw : swappedStores [tg] e X.env = pure none:=by rfl)
  (h1 : (assignEach [tg] X.env).map (·.2) = [assign tg X.env]:=by rfl) : PS X (.Assign [tg] e pos) (tAsg te g):=by
 intro pins s σ H D I h
 refine wpAny_Assign_stores (thn (he pins s σ H _ I h) fun v s1 ⟨x,H1,I1,r1,q1⟩=>?_) hs hw
 rw [h1]
 exact thn (hg pins s1 σ H1 x v _ I1 r1 q1) fun _ s2 q=>q
theorem ps_set {i : Nat} {x : Str} {e : Expr} {te : TE} {pos' : Pos} (hN : X.N.Nodup) (hi : X.N[i]? = some x) (hx : Loc X.env.scope x) (he : PE X e te) (hs : swapsWith e (some (.Name x pos')) pos.line X.env = pure false:=by rfl) (hf : X.fn x = true ∨ X.env.scope.names.lookup x = some .local:=by first | exact .inl rfl | exact .inr rfl | assumption) :
  PS X (.Assign [.Name x pos'] e pos) (tAsg te (gName i)):=by
 intro pins s σ H D I h
 refine wpAny_Assign_Name (thn (he pins s σ H _ I h) fun v s1 ⟨y,H1,I1,r1,q1⟩=>?_) hs
 exact store_ok I1 hN hi hx r1 (fun s2 I2=>⟨_,H1,I2,q1⟩) hf
def tAug (i : Nat) (te : TE) (ti : TIp) : TS:=fun D σ H=>∃ x,σ[i]? = some (some x) /\ te σ H fun y H1=>ti x y H1 fun z H2=>D.nx (σ.set i (some z)) H2
theorem ps_aug {i : Nat} {x : Str} {e : Expr} {te : TE} {op : Operator} {ti : TIp} {pos' : Pos} (hN : X.N.Nodup) (hi : X.N[i]? = some x) (hx : Loc X.env.scope x) (he : PE X e te) (ho : PIp X op ti) (hf : X.fn x = true ∨ X.env.scope.names.lookup x = some .local:=by first | exact .inl rfl | exact .inr rfl | assumption) :
  PS X (.AugAssign (.Name x pos') op e pos) (tAug i te ti):=by
 intro pins s σ H D I h
 obtain ⟨v,e1,h⟩:=h
 obtain ⟨m,hn,hl⟩:=I.loc
 have vis : Vis X.env.scope x:=by rcases hx with k | k; exact .inl k; exact .inr (.inl k)
 obtain ⟨u,r,l⟩:=hl i x v hi e1 vis
 refine wpAny_AugAssign_Name ?_
 have go : wpAny (model X.prog X.w) X.A (eval e X.env) (fun w s₂=>wpAny (model X.prog X.w) X.A (inplaceOp op u w) (fun r s₃=>wpAny (model X.prog X.w) X.A (storeName X.env x r) (fun _=>SP X pins D .next) X.xe s₃) X.xe s₂) X.xe s:=by
  refine thn (he pins s σ H _ I h) fun w s1 ⟨y,H1,I1,r1,q1⟩=>?_
  refine thn (ho pins s1 σ H1 v y u w _ I1 r r1 q1) fun z s2 ⟨zv,H2,I2,r2,q2⟩=>?_
  exact store_ok I2 hN hi hx r2 (fun s3 I3=>⟨_,H2,I3,q2⟩) hf
 rcases l with ⟨hk,hm⟩ | ⟨hk,c,hc,hcell⟩
 ·exact wpAny_loadName_local I.ok.kind hk hn hm go
 ·rcases hk with hk | hk
  ·exact wpAny_loadName_cell I.ok.kind hk hc hcell go
  ·rcases hx with k | k
   ·have : X.env.scope.names.lookup x = some .free:=hk
    rw [k] at this; cases this
   ·have : X.env.scope.names.lookup x = some .free:=hk
    rw [k] at this; cases this
def ipI (f : Int -> Int -> Int) : TIp:=fun x y H Q=>∃ i j,x = .int i /\ y = .int j /\ Q (.int (f i j)) H
theorem ip_add : PIp X .Add (ipI fun i j=>i + j):=by
 intro pins s σ H x y v u Q I r1 r2 h
 obtain ⟨i,j,e1,e2,q⟩:=h
 subst e1; subst e2
 obtain ⟨t,rfl⟩:=r1
 obtain ⟨t',rfl⟩:=r2
 exact iadd_int ⟨.int _,H,I.tok _,⟨_,rfl⟩,q⟩
end
section
variable {X : Cx} {pos : Pos}
def tWhile (c : TT) (tb : TS) : TS:=fun D σ H=>∃ W : Nat -> St -> Hp -> Prop,(∃ m,W m σ H) /\ ∀ m σ H,W m σ H ->
 c σ H fun b H1=>if b = true then ∃ N : St -> Hp -> Prop,(∀ σ' H',N σ' H' -> ∃ m',m' < m /\ W m' σ' H') /\ tb { D with nx:=N,ct:=N,bk:=D.nx } σ H1 else D.nx σ H1
theorem ps_while {c : Expr} {body : List Stmt} {tc : TT} {tb : TS} (hp : PassesOwn (model X.prog X.w) X.A X.env X.xe) (hc : PT X c tc) (hb : PSs X body tb) : PS X (.While c body [] pos) (tWhile tc tb):=by
 intro pins s σ H D I h
 obtain ⟨W,⟨m0,w0⟩,turn⟩:=h
 refine wpAny_While (codeAny_whileLoop (fun n s'=>∃ σ' H',Inv X pins σ' H' s' /\ W n σ' H') ?_ m0 ⟨σ,H,I,w0⟩)
 rintro n s1 ⟨σ1,H1,I1,w1⟩
 refine wpAny_passesOwn hp (thn (hc pins s1 σ1 H1 _ I1 (turn n σ1 H1 w1)) fun b s2 ⟨H2,I2,q2⟩=>?_)
 cases b with
 | true =>
  obtain ⟨N,hN,q2⟩:=q2
  rw [if_pos rfl]
  refine wpAny_passesOwn hp (thn (hb pins s2 σ1 H2 _ I2 q2) fun f s3 q3=>?_)
  cases f with
  | next =>
   obtain ⟨σ3,H3,I3,n3⟩:=q3
   obtain ⟨m',hm,w3⟩:=hN σ3 H3 n3
   exact ⟨m',hm,σ3,H3,I3,w3⟩
  | cont =>
   obtain ⟨σ3,H3,I3,n3⟩:=q3
   obtain ⟨m',hm,w3⟩:=hN σ3 H3 n3
   exact ⟨m',hm,σ3,H3,I3,w3⟩
  | brk=>exact q3
  | ret v=>exact q3
 | false =>
  rw [if_neg Bool.false_ne_true]
  exact wpAny_execs_nil ⟨σ1,H2,I2,q2⟩
end
structure It where
 go : Nat -> Hp -> Prop
 yld : Nat -> Hp -> V -> Hp -> Prop
 stop : Nat -> Hp -> Prop
def FpOk (X : Cx) (pins : List (Addr × Obj)) (H : Hp) (b : Addr) : Prop :=
 H b = none /\ b ≠ X.env.locals /\ b ∉ X.fs /\ (b ∈ X.ex ∨ X.s₀.heap.objs.size <= b) /\ (∀ x c,X.env.cells.lookup x = some c -> c ≠ b) /\ ∀ p ∈ X.pn ++ pins,p.1 ≠ b
theorem Inv.fpOk {X : Cx} {pins : List (Addr × Obj)} {σ : St} {H H' : Hp} {s : Shared} {b : Addr} (I : Inv X pins σ H s) (hb : s.heap.objs.size <= b) (hn : H' b = none) : FpOk X pins H' b:=by
 refine ⟨hn,Nat.ne_of_gt (Nat.lt_of_lt_of_le I.lt hb),I.nofs hb,.inr (Nat.le_trans I.sz hb),fun x c e z=>?_,fun p hp z=>?_⟩
 ·obtain ⟨v,q⟩:=I.cell x c e
  exact absurd (Nat.lt_of_lt_of_le q.lt (by rw [z]; exact hb)) (Nat.lt_irrefl _)
 ·exact absurd (Nat.lt_of_lt_of_le (Heap.lt_size (I.pin p hp).1) (by rw [z]; exact hb)) (Nat.lt_irrefl _)
structure Turn (P : Program) (w : World) (K : PySem.W.Frag) (tg : Expr) (J : It) (fp : List Addr) (it : Addr) (tn : Nat -> Heap -> Prop) : Prop where
 mem : it ∈ fp
 obj : ∀ i h,tn i h -> ∀ b ∈ fp,∃ o,h.get? b = some o /\ ∀ v,o.data ≠ .cell v
 keep : ∀ i h h',tn i h -> (∀ b ∈ fp,∀ o,h.get? b = some o -> h'.get? b = some o) -> tn i h'
 item : ∀ (X : Cx),X.prog = P -> X.w = w -> X.K = K -> X.calm = true -> ∀ (i : Nat) (pins : List (Addr × Obj)) (s : Shared) (σ : St) (H : Hp) (E : Value -> Shared -> Prop),Inv X pins σ H s -> (∀ b ∈ fp,FpOk X pins H b) -> tn i s.heap -> J.go i H ->
  wpAny (model P w) X.A (pyNext (.ref it)) (fun r s1=>∃ u,r = some u /\
   wpAny (model P w) X.A (letOwnedTupleGo tg (.ref it) u) (fun _ s2=>∃ x H',Inv X pins σ H' s2 /\ RelV x u /\ J.yld i H x H' /\ tn (i + 1) s2.heap /\ ∀ b ∈ fp,H' b = none) E s1) E s
 done : ∀ (X : Cx),X.prog = P -> X.w = w -> X.K = K -> X.calm = true -> ∀ (i : Nat) (pins : List (Addr × Obj)) (s : Shared) (σ : St) (H : Hp) (E : Value -> Shared -> Prop),Inv X pins σ H s -> (∀ b ∈ fp,FpOk X pins H b) -> tn i s.heap -> J.stop i H ->
  wpAny (model P w) X.A (pyNext (.ref it)) (fun r s1=>r = none /\ Inv X pins σ H s1) E s
 self : ∀ (A : Around) (i : Nat) (s : Shared) (Q : Value -> Shared -> Prop) (E : Value -> Shared -> Prop),tn i s.heap -> Q (.ref it) s -> wpAny (model P w) A (pyIter (.ref it)) Q E s
abbrev TI:=St -> Hp -> (It -> Hp -> Prop) -> Prop
def PIE (X : Cx) (pins : List (Addr × Obj)) (σ : St) (tg : Expr) (R : It -> Hp -> Prop) (itv : Value) (s2 : Shared) : Prop :=
 ∃ (it : Addr) (fp : List Addr) (tn : Nat -> Heap -> Prop) (J : It) (H' : Hp),itv = .ref it /\ Inv X pins σ H' s2 /\ Turn X.prog X.w X.K tg J fp it tn /\ tn 0 s2.heap /\ (∀ b ∈ fp,FpOk X pins H' b) /\ R J H'
def PI (X : Cx) (tg iter : Expr) (wi : TI) : Prop :=
 ∀ (pins : List (Addr × Obj)) (s : Shared) (σ : St) (H : Hp) (R : It -> Hp -> Prop),Inv X pins σ H s -> wi σ H R ->
  wpAny (model X.prog X.w) X.A (eval iter X.env) (fun v s1=>wpAny (model X.prog X.w) X.A (pyIter v) (PIE X pins σ tg R) X.xe s1) X.xe s
theorem go_of {M : Model} {A : Around} {E : Value → Shared → Prop} {s : Shared} {tg : Expr} {it : Addr} {u : Value} {o : Obj} {n : String} {vs : Array Value} {Q : Unit → Shared → Prop} (ho : s.heap.get? it = some o) (hc : o.cls = .type n) (hd : o.data = .fields vs)
    (hn : ["enumerate", "zip", "dict_itemiterator", "dict_reverseitemiterator", "odict_iterator", "itertools.zip_longest", "itertools.pairwise"].contains n = false) (hQ : Q () s) : wpAny M A (letOwnedTupleGo tg (.ref it) u) Q E s := by
  unfold letOwnedTupleGo
  cases tg <;> first
    | exact wpAny_pure hQ
    | (cases u <;> first
        | exact wpAny_pure hQ
        | (refine wpAny_bind (wpAny_load ho ?_)
           rw [hc, hd]
           show wpAny M A (if (["enumerate", "zip", "dict_itemiterator", "dict_reverseitemiterator", "odict_iterator", "itertools.zip_longest", "itertools.pairwise"].contains n && vs[0]? == some (rawInt _)) = true then _ else _) Q E s
           rw [if_neg (by intro h; rw [hn, Bool.false_and] at h; cases h)]
           exact wpAny_pure hQ))
def Itl (K : PySem.W.Frag) (a : Addr) : It :=
 ⟨fun i H=>∃ xs x,SqL K H a xs /\ xs[i]? = some x,fun i H x H'=>H' = H /\ ∀ xs,SqL K H a xs -> xs[i]? = some x,fun i H=>∃ xs,SqL K H a xs /\ xs.length <= i⟩
def Itt (K : PySem.W.Frag) (a : Addr) : It :=
 ⟨fun i H=>∃ xs x,SqT K H a xs /\ xs[i]? = some x,fun i H x H'=>H' = H /\ ∀ xs,SqT K H a xs -> xs[i]? = some x,fun i H=>∃ xs,SqT K H a xs /\ xs.length <= i⟩
def Itr (lo : Int) (n : Nat) : It:=⟨fun i _=>i < n,fun i H x H'=>H' = H /\ x = .int (lo + i),fun i _=>n <= i⟩
theorem turn_list {P : Program} {w : World} {K : PySem.W.Frag} {tg : Expr} (a it : Addr) : Turn P w K tg (Itl K a) [it] it (fun i h=>h.IsListIter it a i) where
 mem:=by simp
 obj:=fun i h st b hb=>by
  have e : b = it:=by simpa using hb
  subst e
  obtain ⟨o,e,c,d⟩:=st
  exact ⟨o,e,fun v z=>by rw [d] at z; cases z⟩
 keep:=fun i h h' st k=>st.at fun o e=>k it (by simp) o e
 item:=by
  intro X hP hw hK hc i pins s σ H E I hf st hg
  subst hP hw hK
  obtain ⟨xs,x,hq,hx⟩:=hg
  obtain ⟨its,rv,p,hz⟩:=I.list hq
  obtain ⟨u,hu,ru⟩:=rv.get hx
  obtain ⟨f0,f1,f2,f3,f4,f5⟩:=hf it (by simp)
  refine wpAny_pyNext_list_item st p.isList (x:=u) (by simpa using hu) fun h' st' sb=>?_
  have I1 : Inv X pins σ H { s with heap:=h' }:=I.turned (t':=s.toks) (fun b o hb e=>(sb.2 b hb).trans e) f0 f1 f3 f4 f5
  obtain ⟨o,e,c,d⟩:=id st'
  exact ⟨u,rfl,go_of (s:={ s with heap:=h' }) e c d (by decide) ⟨x,H,I1,ru,⟨rfl,fun ys hy=>by rw [I.list_inj hy hq]; exact hx⟩,st',fun b hb=>(hf b hb).1⟩⟩
 done:=by
  intro X hP hw hK hc i pins s σ H E I hf st hg
  subst hP hw hK
  obtain ⟨xs,hq,hx⟩:=hg
  obtain ⟨its,rv,p,hz⟩:=I.list hq
  obtain ⟨f0,f1,f2,f3,f4,f5⟩:=hf it (by simp)
  have hl:=rv.length
  exact wpAny_pyNext_list_end (I.ok.hd hc) st p.isList (by simp; omega) fun h' eb=>⟨rfl,I.turned (t':=s.toks) (fun b o hb e=>eb b o hb e) f0 f1 f3 f4 f5⟩
 self:=fun _ _ _ _ _ st h=>wpAny_pyIter_listiter st h
theorem turn_tuple {P : Program} {w : World} {K : PySem.W.Frag} {tg : Expr} (a it : Addr) : Turn P w K tg (Itt K a) [it] it (fun i h=>h.IsTupleIter it a i) where
 mem:=by simp
 obj:=fun i h st b hb=>by
  have e : b = it:=by simpa using hb
  subst e
  obtain ⟨o,e,c,d⟩:=st
  exact ⟨o,e,fun v z=>by rw [d] at z; cases z⟩
 keep:=fun i h h' st k=>st.at fun o e=>k it (by simp) o e
 item:=by
  intro X hP hw hK hc i pins s σ H E I hf st hg
  subst hP hw hK
  obtain ⟨xs,x,hq,hx⟩:=hg
  obtain ⟨its,rv,p,hz⟩:=I.tuple hq
  obtain ⟨u,hu,ru⟩:=rv.get hx
  obtain ⟨f0,f1,f2,f3,f4,f5⟩:=hf it (by simp)
  refine wpAny_pyNext_tuple_item st (show s.heap.IsTuple a its.toArray from p) (x:=u) (by simpa using hu) fun h' st' sb=>?_
  have I1 : Inv X pins σ H { s with heap:=h' }:=I.turned (t':=s.toks) (fun b o hb e=>(sb.2 b hb).trans e) f0 f1 f3 f4 f5
  obtain ⟨o,e,c,d⟩:=id st'
  exact ⟨u,rfl,go_of (s:={ s with heap:=h' }) e c d (by decide) ⟨x,H,I1,ru,⟨rfl,fun ys hy=>by rw [I.tuple_inj hy hq]; exact hx⟩,st',fun b hb=>(hf b hb).1⟩⟩
 done:=by
  intro X hP hw hK hc i pins s σ H E I hf st hg
  subst hP hw hK
  obtain ⟨xs,hq,hx⟩:=hg
  obtain ⟨its,rv,p,hz⟩:=I.tuple hq
  obtain ⟨f0,f1,f2,f3,f4,f5⟩:=hf it (by simp)
  have hl:=rv.length
  exact wpAny_pyNext_tuple_end (I.ok.hd hc) st (show s.heap.IsTuple a its.toArray from p) (by simp; omega) fun h' eb=>⟨rfl,I.turned (t':=s.toks) (fun b o hb e=>eb b o hb e) f0 f1 f3 f4 f5⟩
 self:=fun _ _ _ _ _ st h=>wpAny_pyIter_tupleiter st h
theorem turn_range {P : Program} {w : World} {K : PySem.W.Frag} {tg : Expr} (it : Addr) (lo : Int) (n : Nat) : Turn P w K tg (Itr lo n) [it] it (fun i h=>IsRangeIter h it (lo + (i : Nat) * 1) ((n : Int) - (i : Nat)) 1) where
 mem:=by simp
 obj:=fun i h st b hb=>by
  have e : b = it:=by simpa using hb
  subst e
  exact ⟨_,st,fun v z=>by
   have z' : Data.fields _ = Data.cell v:=z
   cases z'⟩
 keep:=fun i h h' st k=>k it (by simp) _ st
 item:=by
  intro X hP hw hK hc i pins s σ H E I hf st hg
  subst hP hw hK
  obtain ⟨f0,f1,f2,f3,f4,f5⟩:=hf it (by simp)
  have W:=Walks.range (prog:=X.prog) (w:=X.w) (I.ok.hd hc) it lo 1 n
  refine W.item i s _ _ hg st fun v h' tk hv st' kk=>?_
  obtain ⟨t,rfl⟩:=hv
  have I1 : Inv X pins σ H { s with heap:=h',toks:=tk }:=I.turned (fun b o hb e=>kk b o (by simpa using hb) e) f0 f1 f3 f4 f5
  refine ⟨_,rfl,go_of (s:={ s with heap:=h',toks:=tk }) (n:="range_iterator") st' rfl rfl (by decide) ⟨.int (lo + i),H,I1,⟨t,?_⟩,⟨rfl,rfl⟩,st',fun b hb=>(hf b hb).1⟩⟩
  rw [Int.mul_one]
 done:=by
  intro X hP hw hK hc i pins s σ H E I hf st hg
  subst hP hw hK
  obtain ⟨f0,f1,f2,f3,f4,f5⟩:=hf it (by simp)
  exact wpAny_pyNext_range_end (I.ok.hd hc) st (by have : n <= i:=hg; omega) fun h' eb=>⟨rfl,I.turned (t':=s.toks) (fun b o hb e=>eb b o hb e) f0 f1 f3 f4 f5⟩
 self:=fun _ _ _ _ _ st h=>wpAny_pyIter_rangeiter st h
end L2
namespace L2
open PySem PySem.Spec PyProof.Rows
section
variable {X : Cx} {tg : Expr}
def iList (K : PySem.W.Frag) (tl : TE) : TI:=fun σ H R=>tl σ H fun x H1=>∃ a,x = .ref a /\ (∃ xs,SqL K H1 a xs) /\ R (Itl K a) H1
def iTup (K : PySem.W.Frag) (tl : TE) : TI:=fun σ H R=>tl σ H fun x H1=>∃ a,x = .ref a /\ (∃ xs,SqT K H1 a xs) /\ R (Itt K a) H1
theorem pi_list {l : Expr} {tl : TE} (hl : PE X l tl) : PI X tg l (iList X.K tl):=by
 intro pins s σ H R I h
 refine thn (hl pins s σ H _ I h) fun v s1 ⟨x,H1,I1,r1,q1⟩=>?_
 obtain ⟨a,e,⟨xs,hq⟩,q⟩:=q1
 subst e
 cases r1
 obtain ⟨its,rv,p,hz⟩:=I1.list hq
 refine wpAny_pyIter_list p.isList ?_
 refine ⟨s1.heap.objs.size,[s1.heap.objs.size],_,_,H1,rfl,I1.kept (t':=s1.toks) fun b o e=>Heap.get?_push_of_some _ e,turn_list a _,⟨_,Heap.get?_push_size _ rfl,rfl,rfl⟩,fun b hb=>?_,q⟩
 have e : b = s1.heap.objs.size:=by simpa using hb
 subst e
 exact I1.fpOk (Nat.le_refl _) (I1.hok.fresh (Nat.le_refl _))
theorem pi_tup {l : Expr} {tl : TE} (hl : PE X l tl) : PI X tg l (iTup X.K tl):=by
 intro pins s σ H R I h
 refine thn (hl pins s σ H _ I h) fun v s1 ⟨x,H1,I1,r1,q1⟩=>?_
 obtain ⟨a,e,⟨xs,hq⟩,q⟩:=q1
 subst e
 cases r1
 obtain ⟨its,rv,p,hz⟩:=I1.tuple hq
 refine wpAny_pyIter_tuple (show s1.heap.IsTuple a its.toArray from p) ?_
 refine ⟨s1.heap.objs.size,[s1.heap.objs.size],_,_,H1,rfl,I1.kept (t':=s1.toks) fun b o e=>Heap.get?_push_of_some _ e,turn_tuple a _,⟨_,Heap.get?_push_size _ rfl,rfl,rfl⟩,fun b hb=>?_,q⟩
 have e : b = s1.heap.objs.size:=by simpa using hb
 subst e
 exact I1.fpOk (Nat.le_refl _) (I1.hok.fresh (Nat.le_refl _))
theorem range_it {pins : List (Addr × Obj)} {σ : St} {H : Hp} {s : Shared} {R : It -> Hp -> Prop} {E : Value -> Shared -> Prop} {lo hi : Int} {t u v : Tok} {tk : Nat} (I : Inv X pins σ H s) (h1 : -(2 ^ 62) <= lo) (h2 : lo < 2 ^ 62) (h3 : -(2 ^ 62) <= hi) (h4 : hi < 2 ^ 62)
  (q : R (Itr lo (hi - lo).toNat) H) : wpAny (model X.prog X.w) X.A (pyIter (.ref s.heap.objs.size)) (PIE X pins σ tg R) E { s with heap:=s.heap.push { cls:=.type "range",data:=.fields #[.int lo t,.int hi u,.int 1 v] },toks:=tk }:=by
 refine wpAny_pyIter_range (IsRange.new ..) (small_one h1 h2 h3 h4) ?_
 have I1 : Inv X pins σ H { s with heap:=s.heap.push { cls:=.type "range",data:=.fields #[.int lo t,.int hi u,.int 1 v] },toks:=tk }:=I.kept fun b o e=>Heap.get?_push_of_some _ e
 refine ⟨(s.heap.push { cls:=.type "range",data:=.fields #[.int lo t,.int hi u,.int 1 v] }).objs.size,[(s.heap.push { cls:=.type "range",data:=.fields #[.int lo t,.int hi u,.int 1 v] }).objs.size],_,_,H,rfl,
  I1.kept (t':=tk) fun b o e=>Heap.get?_push_of_some _ e,turn_range _ lo (hi - lo).toNat,?_,fun b hb=>?_,q⟩
 ·have e1 : lo + ((0 : Nat) : Int) * 1 = lo:=by simp
  have e2 : (((hi - lo).toNat : Nat) : Int) - ((0 : Nat) : Int) = Builtin.Range.rangeSize lo hi 1:=by rw [rangeSize_one]; split <;> omega
  show IsRangeIter _ _ (lo + ((0 : Nat) : Int) * 1) ((((hi - lo).toNat : Nat) : Int) - ((0 : Nat) : Int)) 1
  rw [e1,e2]
  exact Heap.get?_push_size _ rfl
 ·have e : b = (s.heap.push { cls:=.type "range",data:=.fields #[.int lo t,.int hi u,.int 1 v] }).objs.size:=by simpa using hb
  subst e
  exact I1.fpOk (Nat.le_refl _) (I1.hok.fresh (Nat.le_refl _))
def iRng1 (ta : TA) : TI:=fun σ H R=>ta σ H fun vs H1=>∃ j : Int,vs = [.int j] /\ -(2 ^ 62) <= j /\ j < 2 ^ 62 /\ R (Itr 0 j.toNat) H1
def iRng2 (ta : TA) : TI:=fun σ H R=>ta σ H fun vs H1=>∃ i j : Int,vs = [.int i,.int j] /\ (-(2 ^ 62) <= i /\ i < 2 ^ 62 /\ -(2 ^ 62) <= j /\ j < 2 ^ 62) /\ R (Itr i (j - i).toNat) H1
theorem pi_range1 {a : Expr} {ta : TA} {p pos : Pos} (hg : Gl X "range") (hm : X.mg "range" = none) (ha : PA X [a] ta) (hs : starEach [a] X.env = [(false,eval a X.env)]:=by rfl) : PI X tg (.Call (.Name "range" p) [a] [] pos) (iRng1 ta):=by
 intro pins s σ H R I h
 refine Call_ (ld_blt I hg hm boot_range (PyProof.Rows.callWith_type1 (thn (ha pos pins s σ H _ I h) fun us s1 ⟨vs,H1,I1,r1,q1⟩=>?_) hs rfl))
 obtain ⟨j,e,q1,q2,q⟩:=q1
 subst e
 cases r1 with
 | cons r rr =>
  cases rr
  obtain ⟨t,rfl⟩:=r
  exact call_range_1 (range_it I1 (by omega) (by omega) q1 q2 (by simpa using q))
theorem pi_range2 {a b : Expr} {ta : TA} {p pos : Pos} (hg : Gl X "range") (hm : X.mg "range" = none) (ha : PA X [a,b] ta) (hs : starEach [a,b] X.env = [(false,eval a X.env),(false,eval b X.env)]:=by rfl) (hs2 : starEach [b] X.env = [(false,eval b X.env)]:=by rfl) :
  PI X tg (.Call (.Name "range" p) [a,b] [] pos) (iRng2 ta):=by
 intro pins s σ H R I h
 refine Call_ (ld_blt I hg hm boot_range (PyProof.Rows.callWith_type1 (thn (ha pos pins s σ H _ I h) fun us s1 ⟨vs,H1,I1,r1,q1⟩=>?_) (by rw [hs,hs2]) (by rw [hs2]; rfl)))
 obtain ⟨i,j,e,⟨q1,q2,q3,q4⟩,q⟩:=q1
 subst e
 cases r1 with
 | cons r rr =>
  cases rr with
  | cons r' rr =>
   cases rr
   obtain ⟨t,rfl⟩:=r
   obtain ⟨t',rfl⟩:=r'
   exact call_range_2 (range_it I1 q1 q2 q3 q4 q)
def tFor (wi : TI) (g : TG) (tb : TS) : TS:=fun D σ H=>wi σ H fun J H1=>∃ W : Nat -> Nat -> St -> Hp -> Prop,(∃ m,W 0 m σ H1) /\ ∀ i m σ H,W i m σ H ->
 (J.stop i H /\ D.nx σ H) ∨ (J.go i H /\ ∃ N : St -> Hp -> Prop,(∀ σ' H',N σ' H' -> ∃ m',m' < m /\ W (i + 1) m' σ' H') /\ ∀ x H',J.yld i H x H' -> g x σ H' fun σ2 H2=>tb { D with nx:=N,ct:=N,bk:=D.nx } σ2 H2)
def pinsAt (fp : List Addr) (h : Heap) : List (Addr × Obj):=fp.filterMap fun b=>(h.get? b).map fun o=>(b,o)
theorem mem_pinsAt {fp : List Addr} {h : Heap} {b : Addr} {o : Obj} (hb : b ∈ fp) (e : h.get? b = some o) : (b,o) ∈ pinsAt fp h:=List.mem_filterMap.mpr ⟨b,hb,by rw [e]; rfl⟩
theorem of_pinsAt {fp : List Addr} {h : Heap} {p : Addr × Obj} (hp : p ∈ pinsAt fp h) : p.1 ∈ fp /\ h.get? p.1 = some p.2:=by
 obtain ⟨b,hb,e⟩:=List.mem_filterMap.mp hp
 cases q : h.get? b with
 | none=>rw [q] at e; cases e
 | some o =>
  rw [q] at e
  have e' : (b,o) = p:=Option.some.inj e
  subst e'
  exact ⟨hb,q⟩
theorem Inv.pinned {pins : List (Addr × Obj)} {σ : St} {H : Hp} {s : Shared} {fp : List Addr} (I : Inv X pins σ H s) (hf : ∀ b ∈ fp,FpOk X pins H b) (ho : ∀ b ∈ fp,∃ o,s.heap.get? b = some o /\ ∀ v,o.data ≠ .cell v) : Inv X (pins ++ pinsAt fp s.heap) σ H s :=
 I.pins_of fun p hp=>(List.mem_append.mp hp).elim (fun z=>I.pin p (List.mem_append_right _ z)) fun z=>by
  obtain ⟨hb,e⟩:=of_pinsAt z
  obtain ⟨f0,f1,f2,_⟩:=hf p.1 hb
  obtain ⟨o,e',d⟩:=ho p.1 hb
  rw [e] at e'; cases e'
  exact ⟨e,f0,f1,f2,d⟩
theorem Inv.unpinned {pins pl : List (Addr × Obj)} {σ : St} {H : Hp} {s : Shared} (I : Inv X (pins ++ pl) σ H s) : Inv X pins σ H s:=I.pins_of fun p hp=>I.pin p (List.mem_append_right _ (List.mem_append_left _ hp))
theorem ps_for {iter : Expr} {body : List Stmt} {wi : TI} {g : TG} {tb : TS} {pos : Pos} (hp : PassesOwn (model X.prog X.w) X.A X.env X.xe) (hc : X.calm = true) (hi : PI X tg iter wi) (hg : PG X tg g) (hb : PSs X body tb)
  (hs : ∀ x,foldedSetIterable iter X.env x = pure x:=by intro _; rfl) : PS X (.For tg iter body [] pos) (tFor wi g tb):=by
 intro pins s σ H D I h
 refine wpAny_For (thn (hi pins s σ H _ I h) fun v s1 h1=>thn h1 fun itv s2 h2=>?_) hs
 obtain ⟨it,fp,tn,J,H2,e,I2,T,st2,f2,W,⟨m0,w0⟩,turn⟩:=h2
 subst e
 have stat : ∀ {H' : Hp},(∀ b ∈ fp,H' b = none) -> ∀ b ∈ fp,FpOk X pins H' b:=fun hn b hb=>⟨hn b hb,(f2 b hb).2⟩
 refine codeAny_forLoop_any (fun n s'=>∃ i σ' H',Inv X pins σ' H' s' /\ tn i s'.heap /\ (∀ b ∈ fp,H' b = none) /\ W i n σ' H') ?_ m0 ⟨0,σ,H2,I2,st2,fun b hb=>(f2 b hb).1,w0⟩
 rintro n s3 ⟨i,σ3,H3,I3,st3,fr3,w3⟩
 rcases turn i n σ3 H3 w3 with ⟨stop,qn⟩ | ⟨go,N,hN,step⟩
 ·refine wpAny_passesOwn hp (thn (T.done X rfl rfl rfl hc i pins s3 σ3 H3 X.xe I3 (stat fr3) st3 stop) fun r s4 ⟨hr,I4⟩=>?_)
  subst hr
  exact wpAny_execs_nil ⟨σ3,H3,I4,qn⟩
 ·refine wpAny_passesOwn hp (thn (T.item X rfl rfl rfl hc i pins s3 σ3 H3 X.xe I3 (stat fr3) st3 go) fun r s4 ⟨u,hr,h4⟩=>?_)
  subst hr
  refine wpAny_passesOwn hp (thn h4 fun _ s5 ⟨x,H5,I5,r5,y5,st5,fr5⟩=>?_)
  have I5':=I5.pinned (stat fr5) (T.obj _ _ st5)
  refine wpAny_passesOwn hp (thn (hg _ s5 σ3 H5 x u _ I5' r5 (step x H5 y5)) fun _ s6 ⟨σ6,H6,I6,q6⟩=>?_)
  refine wpAny_passesOwn hp (thn (hb _ s6 σ6 H6 _ I6 q6) fun f s7 q7=>?_)
  have again : ∀ {σ7 : St} {H7 : Hp},Inv X (pins ++ pinsAt fp s5.heap) σ7 H7 s7 -> N σ7 H7 -> ∃ m,m < n /\ ∃ i σ' H',Inv X pins σ' H' s7 /\ tn i s7.heap /\ (∀ b ∈ fp,H' b = none) /\ W i m σ' H':=fun {σ7 H7} I7 n7=>by
   obtain ⟨m',hm,w7⟩:=hN σ7 H7 n7
   refine ⟨m',hm,i + 1,σ7,H7,I7.unpinned,T.keep _ _ _ st5 fun b hb o e=>(I7.pin (b,o) (List.mem_append_right _ (List.mem_append_right _ (mem_pinsAt hb e)))).1,fun b hb=>?_,w7⟩
   obtain ⟨o,e,d⟩:=T.obj _ _ st5 b hb
   exact (I7.pin (b,o) (List.mem_append_right _ (List.mem_append_right _ (mem_pinsAt hb e)))).2.1
  cases f with
  | next=>obtain ⟨σ7,H7,I7,n7⟩:=q7; exact again I7 n7
  | cont=>obtain ⟨σ7,H7,I7,n7⟩:=q7; exact again I7 n7
  | brk=>obtain ⟨σ7,H7,I7,q7⟩:=q7; exact ⟨σ7,H7,I7.unpinned,q7⟩
  | ret v=>obtain ⟨x7,σ7,H7,I7,r7,q7⟩:=q7; exact ⟨x7,σ7,H7,I7.unpinned,r7,q7⟩
end
theorem for_list {K : PySem.W.Frag} {a : Addr} {xs : List V} {g : TG} {tb : TS} {D : Ends} {σ : St} {H : Hp} (Pv : Nat -> St -> Hp -> Prop) (h0 : Pv 0 σ H) (hl : ∀ i σ H,i <= xs.length -> Pv i σ H -> SqL K H a xs)
  (hs : ∀ i x σ H,xs[i]? = some x -> Pv i σ H -> g x σ H fun σ2 H2=>tb { D with nx:=Pv (i + 1),ct:=Pv (i + 1),bk:=D.nx } σ2 H2) (hd : ∀ σ H,Pv xs.length σ H -> D.nx σ H) :
  ∃ W : Nat -> Nat -> St -> Hp -> Prop,(∃ m,W 0 m σ H) /\ ∀ i m σ H,W i m σ H ->
   ((Itl K a).stop i H /\ D.nx σ H) ∨ ((Itl K a).go i H /\ ∃ N : St -> Hp -> Prop,(∀ σ' H',N σ' H' -> ∃ m',m' < m /\ W (i + 1) m' σ' H') /\ ∀ x H',(Itl K a).yld i H x H' -> g x σ H' fun σ2 H2=>tb { D with nx:=N,ct:=N,bk:=D.nx } σ2 H2):=by
 refine ⟨fun i m σ H=>m = xs.length - i /\ i <= xs.length /\ Pv i σ H,⟨xs.length,by simp,Nat.zero_le _,h0⟩,?_⟩
 rintro i m σ H ⟨rfl,hi,p⟩
 have q:=hl i σ H hi p
 by_cases hlt : i < xs.length
 ·refine .inr ⟨⟨xs,xs[i],q,by simp [hlt]⟩,Pv (i + 1),fun σ' H' p'=>⟨xs.length - (i + 1),by omega,rfl,hlt,p'⟩,fun x H' y=>?_⟩
  obtain ⟨e,y⟩:=y
  subst e
  exact hs i x σ _ (y xs q) p
 ·have e : i = xs.length:=by omega
  subst e
  exact .inl ⟨⟨xs,q,Nat.le_refl _⟩,hd σ H p⟩
theorem for_tup {K : PySem.W.Frag} {a : Addr} {xs : List V} {g : TG} {tb : TS} {D : Ends} {σ : St} {H : Hp} (Pv : Nat -> St -> Hp -> Prop) (h0 : Pv 0 σ H) (hl : ∀ i σ H,i <= xs.length -> Pv i σ H -> SqT K H a xs)
  (hs : ∀ i x σ H,xs[i]? = some x -> Pv i σ H -> g x σ H fun σ2 H2=>tb { D with nx:=Pv (i + 1),ct:=Pv (i + 1),bk:=D.nx } σ2 H2) (hd : ∀ σ H,Pv xs.length σ H -> D.nx σ H) :
  ∃ W : Nat -> Nat -> St -> Hp -> Prop,(∃ m,W 0 m σ H) /\ ∀ i m σ H,W i m σ H ->
   ((Itt K a).stop i H /\ D.nx σ H) ∨ ((Itt K a).go i H /\ ∃ N : St -> Hp -> Prop,(∀ σ' H',N σ' H' -> ∃ m',m' < m /\ W (i + 1) m' σ' H') /\ ∀ x H',(Itt K a).yld i H x H' -> g x σ H' fun σ2 H2=>tb { D with nx:=N,ct:=N,bk:=D.nx } σ2 H2):=by
 refine ⟨fun i m σ H=>m = xs.length - i /\ i <= xs.length /\ Pv i σ H,⟨xs.length,by simp,Nat.zero_le _,h0⟩,?_⟩
 rintro i m σ H ⟨rfl,hi,p⟩
 have q:=hl i σ H hi p
 by_cases hlt : i < xs.length
 ·refine .inr ⟨⟨xs,xs[i],q,by simp [hlt]⟩,Pv (i + 1),fun σ' H' p'=>⟨xs.length - (i + 1),by omega,rfl,hlt,p'⟩,fun x H' y=>?_⟩
  obtain ⟨e,y⟩:=y
  subst e
  exact hs i x σ _ (y xs q) p
 ·have e : i = xs.length:=by omega
  subst e
  exact .inl ⟨⟨xs,q,Nat.le_refl _⟩,hd σ H p⟩
theorem for_range {lo : Int} {n : Nat} {g : TG} {tb : TS} {D : Ends} {σ : St} {H : Hp} (Pv : Nat -> St -> Hp -> Prop) (h0 : Pv 0 σ H)
  (hs : ∀ i σ H,i < n -> Pv i σ H -> g (.int (lo + i)) σ H fun σ2 H2=>tb { D with nx:=Pv (i + 1),ct:=Pv (i + 1),bk:=D.nx } σ2 H2) (hd : ∀ σ H,Pv n σ H -> D.nx σ H) :
  ∃ W : Nat -> Nat -> St -> Hp -> Prop,(∃ m,W 0 m σ H) /\ ∀ i m σ H,W i m σ H ->
   ((Itr lo n).stop i H /\ D.nx σ H) ∨ ((Itr lo n).go i H /\ ∃ N : St -> Hp -> Prop,(∀ σ' H',N σ' H' -> ∃ m',m' < m /\ W (i + 1) m' σ' H') /\ ∀ x H',(Itr lo n).yld i H x H' -> g x σ H' fun σ2 H2=>tb { D with nx:=N,ct:=N,bk:=D.nx } σ2 H2):=by
 refine ⟨fun i m σ H=>m = n - i /\ i <= n /\ Pv i σ H,⟨n,by simp,Nat.zero_le _,h0⟩,?_⟩
 rintro i m σ H ⟨rfl,hi,p⟩
 by_cases hlt : i < n
 ·refine .inr ⟨hlt,Pv (i + 1),fun σ' H' p'=>⟨n - (i + 1),by omega,rfl,hlt,p'⟩,fun x H' y=>?_⟩
  obtain ⟨e,y⟩:=y
  subst e y
  exact hs i σ _ hlt p
 ·have e : i = n:=by omega
  subst e
  exact .inl ⟨Nat.le_refl _,hd σ H p⟩
theorem while_by {c : TT} {tb : TS} {D : Ends} {σ : St} {H : Hp} (Pv : St -> Hp -> Prop) (μ : St -> Hp -> Nat) (h0 : Pv σ H)
  (hs : ∀ σ H,Pv σ H -> c σ H fun b H1=>if b = true then tb { D with nx:=fun σ' H'=>Pv σ' H' /\ μ σ' H' < μ σ H,ct:=fun σ' H'=>Pv σ' H' /\ μ σ' H' < μ σ H,bk:=D.nx } σ H1 else D.nx σ H1)
  (mono : ∀ σ H Q Q',(∀ b H1,Q b H1 -> Q' b H1) -> c σ H Q -> c σ H Q') : tWhile c tb D σ H:=by
 refine ⟨fun m σ H=>m = μ σ H /\ Pv σ H,⟨_,rfl,h0⟩,?_⟩
 rintro m σ H ⟨rfl,p⟩
 refine mono σ H _ _ (fun b H1 q=>?_) (hs σ H p)
 cases b with
 | true=>exact ⟨_,fun σ' H' ⟨p',l⟩=>⟨_,l,rfl,p'⟩,q⟩
 | false=>exact q
end L2
namespace L2
open PySem PySem.Spec PyProof.Rows
abbrev R2:=V -> V -> Hp -> VK -> Prop
def OpR (X : Cx) (f : Value -> Value -> Sem Value) (r : R2) : Prop :=
 ∀ (pins : List (Addr × Obj)) (s : Shared) (σ : St) (H : Hp) (x y : V) (v u : Value) (Q : VK),Inv X pins σ H s -> RelV x v -> RelV y u -> r x y H Q ->
  wpAny (model X.prog X.w) X.A (f v u) (EP X pins σ Q) X.xe s
def UnR (X : Cx) (f : Value -> Sem Value) (r : V -> Hp -> VK -> Prop) : Prop :=
 ∀ (pins : List (Addr × Obj)) (s : Shared) (σ : St) (H : Hp) (x : V) (v : Value) (Q : VK),Inv X pins σ H s -> RelV x v -> r x H Q ->
  wpAny (model X.prog X.w) X.A (f v) (EP X pins σ Q) X.xe s
def CallR (X : Cx) (f : Value) (r : List V -> Hp -> VK -> Prop) : Prop :=
 ∀ (pins : List (Addr × Obj)) (s : Shared) (σ : St) (H : Hp) (xs : List V) (us : List Value) (Q : VK),Inv X pins σ H s -> Vals xs us -> r xs H Q ->
  wpAny (model X.prog X.w) X.A (call f us) (EP X pins σ Q) X.xe s
def tOp (r : R2) (ta tb : TE) : TE:=fun σ H Q=>ta σ H fun x H1=>tb σ H1 fun y H2=>r x y H2 Q
def tUn (r : V -> Hp -> VK -> Prop) (ta : TE) : TE:=fun σ H Q=>ta σ H fun x H1=>r x H1 Q
def rI (C : Int -> Int -> Prop) (g : Int -> Int -> V) : R2:=fun x y H Q=>∃ i j,x = .int i /\ y = .int j /\ C i j /\ Q (g i j) H
def rI0 (g : Int -> Int -> V) : R2:=fun x y H Q=>∃ i j,x = .int i /\ y = .int j /\ Q (g i j) H
def rU (g : Int -> V) : V -> Hp -> VK -> Prop:=fun x H Q=>∃ i,x = .int i /\ Q (g i) H
section
variable {X : Cx} {a b c : Expr} {ta tb tc : TE} {pos : Pos}
theorem binT (ha : PE X a ta) (hb : PE X b tb) {pins : List (Addr × Obj)} {s : Shared} {σ : St} {H : Hp} {R : V -> V -> Hp -> Prop} (I : Inv X pins σ H s)
  (h : ta σ H fun x H1=>tb σ H1 fun y H2=>R x y H2) {Q : Value -> Shared -> Prop} {f : Value -> Value -> Sem Value}
  (hf : ∀ v u s2 x y H2,Inv X pins σ H2 s2 -> RelV x v -> RelV y u -> R x y H2 -> wpAny (model X.prog X.w) X.A (f v u) Q X.xe s2) :
  wpAny (model X.prog X.w) X.A (eval a X.env) (fun v s₁=>wpAny (model X.prog X.w) X.A (eval b X.env) (fun u s₂=>wpAny (model X.prog X.w) X.A (f v u) Q X.xe s₂) X.xe s₁) X.xe s:=by
 refine thn (ha pins s σ H _ I h) fun v s1 ⟨x,H1,I1,r1,q1⟩=>?_
 refine thn (hb pins s1 σ H1 _ I1 q1) fun u s2 ⟨y,H2,I2,r2,q2⟩=>?_
 exact hf v u s2 x y H2 I2 r1 r2 q2
theorem pe_op {op : Operator} {r : R2} (ho : OpR X (binaryOp op) r) (ha : PE X a ta) (hb : PE X b tb) : PE X (.BinOp a op b pos) (tOp r ta tb):=by
 intro pins s σ H Q I h
 exact wpAny_BinOp (binT ha hb I h fun v u s2 x y H2 I2 rx ry q=>ho pins s2 σ H2 x y v u Q I2 rx ry q)
theorem pe_un {op : UnaryOp} {r : V -> Hp -> VK -> Prop} (ho : UnR X (unaryOp op) r) (ha : PE X a ta) : PE X (.UnaryOp op a pos) (tUn r ta):=by
 intro pins s σ H Q I h
 exact UnaryOp_ (thn (ha pins s σ H _ I h) fun v s1 ⟨x,H1,I1,r1,q1⟩=>ho pins s1 σ H1 x v Q I1 r1 q1)
theorem opI {f : Value -> Value -> Sem Value} {C : Int -> Int -> Prop} {g : Int -> Int -> Int}
  (rule : ∀ (i j : Int) (t u : Tok) (s : Shared) (Q : Value -> Shared -> Prop) (E : Value -> Shared -> Prop),C i j -> Q (.int (g i j) s.toks) { s with toks:=s.toks + 1 } -> wpAny (model X.prog X.w) X.A (f (.int i t) (.int j u)) Q E s) :
  OpR X f (rI C fun i j=>.int (g i j)):=by
 intro pins s σ H x y v u Q I rx ry h
 obtain ⟨i,j,rfl,rfl,hc,q⟩:=h
 obtain ⟨t,rfl⟩:=rx
 obtain ⟨t',rfl⟩:=ry
 exact rule i j t t' s _ _ hc ⟨.int (g i j),H,I.tok _,⟨_,rfl⟩,q⟩
theorem opI0 {f : Value -> Value -> Sem Value} {g : Int -> Int -> Int}
  (rule : ∀ (i j : Int) (t u : Tok) (s : Shared) (Q : Value -> Shared -> Prop) (E : Value -> Shared -> Prop),Q (.int (g i j) s.toks) { s with toks:=s.toks + 1 } -> wpAny (model X.prog X.w) X.A (f (.int i t) (.int j u)) Q E s) :
  OpR X f (rI0 fun i j=>.int (g i j)):=by
 intro pins s σ H x y v u Q I rx ry h
 obtain ⟨i,j,rfl,rfl,q⟩:=h
 obtain ⟨t,rfl⟩:=rx
 obtain ⟨t',rfl⟩:=ry
 exact rule i j t t' s _ _ ⟨.int (g i j),H,I.tok _,⟨_,rfl⟩,q⟩
theorem opB0 {f : Value -> Value -> Sem Value} {g : Int -> Int -> Bool}
  (rule : ∀ (i j : Int) (t u : Tok) (s : Shared) (Q : Value -> Shared -> Prop) (E : Value -> Shared -> Prop),Q (.bool (g i j)) s -> wpAny (model X.prog X.w) X.A (f (.int i t) (.int j u)) Q E s) :
  OpR X f (rI0 fun i j=>.bl (g i j)):=by
 intro pins s σ H x y v u Q I rx ry h
 obtain ⟨i,j,rfl,rfl,q⟩:=h
 obtain ⟨t,rfl⟩:=rx
 obtain ⟨t',rfl⟩:=ry
 exact rule i j t t' s _ _ ⟨.bl (g i j),H,I,rfl,q⟩
def CDiv (i j : Int) : Prop:=0 < j /\ j < 1073741824
def CPow (i j : Int) : Prop:=0 <= j /\ j <= 1000000 /\ i.natAbs < 2 ^ 64
def CMul (i j : Int) : Prop:=(-(2 ^ 64) < i /\ i < 2 ^ 64) ∨ (-(2 ^ 64) < j /\ j < 2 ^ 64)
theorem CMul.ok {i j : Int} (h : CMul i j) : IntMulOk i j:=by
 rcases h with ⟨h1,h2⟩ | ⟨h1,h2⟩
 ·exact .of_left (intBits_le_64 h1 h2)
 ·exact .of_right (intBits_le_64 h1 h2)
theorem op_add : OpR X (binaryOp .Add) (rI0 fun i j=>.int (i + j)):=opI0 fun _ _ _ _ _ _ _ q=>add_int q
theorem op_sub : OpR X (binaryOp .Sub) (rI0 fun i j=>.int (i - j)):=opI0 fun _ _ _ _ _ _ _ q=>sub_int q
theorem op_mul : OpR X (binaryOp .Mult) (rI CMul fun i j=>.int (i * j)):=opI fun _ _ _ _ _ _ _ hc q=>mul_int q hc.ok
theorem op_fdiv : OpR X (binaryOp .FloorDiv) (rI CDiv fun i j=>.int (i / j)):=opI fun i j _ _ _ _ _ hc q=>by
 have h1 : (0 : Int) < j:=hc.1
 have h2 : j < 1073741824:=hc.2
 exact floordiv_int (by omega) (by rw [Int.fdiv_eq_ediv_of_nonneg i (by omega)]; exact q) (.inl (PyProof.noPylong_small (by omega)))
theorem op_mod : OpR X (binaryOp .Mod) (rI (fun _ j=>0 < j) fun i j=>.int (i % j)):=opI fun i j _ _ _ _ _ hc q=>by
 have h1 : (0 : Int) < j:=hc
 exact mod_int' (by omega) (by rw [Int.fmod_eq_emod_of_nonneg i (by omega)]; exact q)
theorem op_pow : OpR X (binaryOp .Pow) (rI CPow fun i j=>.int (i ^ j.toNat)):=opI fun _ _ _ _ _ _ _ hc q=>pow_int_small hc.1 hc.2.1 hc.2.2 q
theorem unI {f : Value -> Sem Value} {g : Int -> Int}
  (rule : ∀ (i : Int) (t : Tok) (s : Shared) (Q : Value -> Shared -> Prop) (E : Value -> Shared -> Prop),Q (.int (g i) s.toks) { s with toks:=s.toks + 1 } -> wpAny (model X.prog X.w) X.A (f (.int i t)) Q E s) :
  UnR X f (rU fun i=>.int (g i)):=by
 intro pins s σ H x v Q I rx h
 obtain ⟨i,rfl,q⟩:=h
 obtain ⟨t,rfl⟩:=rx
 exact rule i t s _ _ ⟨.int (g i),H,I.tok _,⟨_,rfl⟩,q⟩
theorem un_neg : UnR X (unaryOp .USub) (rU fun i=>.int (-i)):=unI fun _ _ _ _ _ q=>neg_int q
end
def scal : V -> V -> Bool
 | .non,.non=>true | .non,.int _=>true | .int _,.non=>true | .non,.bl _=>true | .bl _,.non=>true | .non,.str _=>true | .str _,.non=>true
 | .int _,.int _=>true | .bl _,.bl _=>true | .str _,.str _=>true | .byt _,.byt _=>true
 | .int _,.str _=>true | .str _,.int _=>true | .bl _,.str _=>true | .str _,.bl _=>true
 | _,_=>false
def rEq : R2:=fun x y H Q=>scal x y = true /\ Q (.bl (decide (x = y))) H
def rNe : R2:=fun x y H Q=>scal x y = true /\ Q (.bl (!decide (x = y))) H
theorem dec_int {i j : Int} : decide (V.int i = V.int j) = (i == j):=by
 rw [Bool.eq_iff_iff]
 simp
theorem dec_bl {i j : Bool} : decide (V.bl i = V.bl j) = (i == j):=by
 rw [Bool.eq_iff_iff]
 simp
theorem dec_str {i j : Str} : decide (V.str i = V.str j) = (i == j):=by
 rw [Bool.eq_iff_iff]
 simp
theorem dec_byt {i j : Array UInt8} : decide (V.byt i = V.byt j) = (i.toList == j.toList):=by
 rw [Bool.eq_iff_iff]
 cases i
 cases j
 simp
section
variable {X : Cx} {a b c : Expr} {ta tb tc : TE} {pos : Pos}
theorem fin_bl {pins : List (Addr × Obj)} {σ : St} {H : Hp} {s : Shared} {Q : VK} {k k' : Bool} (I : Inv X pins σ H s) (q : Q (.bl k) H) (e : k = k') : EP X pins σ Q (.bool k') s:=by
 subst e
 exact ⟨.bl k,H,I,rfl,q⟩
theorem op_eq : OpR X (compareOp .Eq) rEq:=by
 intro pins s σ H x y v u Q I rx ry h
 obtain ⟨hs,q⟩:=h
 cases x with
 | non =>
  cases rx
  cases y with
  | non=>cases ry; exact PySem.EqNone.eq_none_none (fin_bl I q (by simp))
  | bl j=>cases ry; exact PySem.EqNone.eq_none_bool (fin_bl I q (by simp))
  | int j=>obtain ⟨t',rfl⟩:=ry; exact PySem.EqNone.eq_none_int (fin_bl I q (by simp))
  | str j=>obtain ⟨t',rfl⟩:=ry; exact PySem.EqNone.eq_none_str (fin_bl I q (by simp))
  | _=>exact absurd (show false = true from hs) Bool.false_ne_true
 | bl i =>
  cases rx
  cases y with
  | non=>cases ry; exact PySem.EqNone.eq_bool_none (fin_bl I q (by simp))
  | bl j=>cases ry; exact eq_bool (fin_bl I q dec_bl)
  | str j=>obtain ⟨t',rfl⟩:=ry; exact PySem.EqMixed.eq_bool_str (fin_bl I q (by simp))
  | _=>exact absurd (show false = true from hs) Bool.false_ne_true
 | int i =>
  obtain ⟨t,rfl⟩:=rx
  cases y with
  | non=>cases ry; exact PySem.EqNone.eq_int_none (fin_bl I q (by simp))
  | int j=>obtain ⟨t',rfl⟩:=ry; exact eq_int (fin_bl I q dec_int)
  | str j=>obtain ⟨t',rfl⟩:=ry; exact PySem.EqMixed.eq_int_str (fin_bl I q (by simp))
  | _=>exact absurd (show false = true from hs) Bool.false_ne_true
 | str i =>
  obtain ⟨t,rfl⟩:=rx
  cases y with
  | non=>cases ry; exact PySem.EqNone.eq_str_none (fin_bl I q (by simp))
  | bl j=>cases ry; exact PySem.EqMixed.eq_str_bool (fin_bl I q (by simp))
  | int j=>obtain ⟨t',rfl⟩:=ry; exact PySem.EqMixed.eq_str_int (fin_bl I q (by simp))
  | str j=>obtain ⟨t',rfl⟩:=ry; exact eq_str (fin_bl I q dec_str)
  | _=>exact absurd (show false = true from hs) Bool.false_ne_true
 | byt i =>
  obtain ⟨t,rfl⟩:=rx
  cases y with
  | byt j=>obtain ⟨t',rfl⟩:=ry; exact PySem.W.eq_bytes (fin_bl I q dec_byt)
  | _=>exact absurd (show false = true from hs) Bool.false_ne_true
 | _=>cases y <;> exact absurd (show false = true from hs) Bool.false_ne_true
theorem op_ne : OpR X (compareOp .NotEq) rNe:=by
 intro pins s σ H x y v u Q I rx ry h
 obtain ⟨hs,q⟩:=h
 cases x with
 | non =>
  cases rx
  cases y with
  | non=>cases ry; exact PySem.EqNone.ne_none_none (fin_bl I q (by simp))
  | bl j=>cases ry; exact PySem.EqNone.ne_none_bool (fin_bl I q (by simp))
  | int j=>obtain ⟨t',rfl⟩:=ry; exact PySem.EqNone.ne_none_int (fin_bl I q (by simp))
  | str j=>obtain ⟨t',rfl⟩:=ry; exact PySem.EqNone.ne_none_str (fin_bl I q (by simp))
  | _=>exact absurd (show false = true from hs) Bool.false_ne_true
 | bl i =>
  cases rx
  cases y with
  | non=>cases ry; exact PySem.EqNone.ne_bool_none (fin_bl I q (by simp))
  | bl j=>cases ry; exact ne_bool (fin_bl I q (congrArg not dec_bl))
  | str j=>obtain ⟨t',rfl⟩:=ry; exact PySem.EqMixed.ne_bool_str (fin_bl I q (by simp))
  | _=>exact absurd (show false = true from hs) Bool.false_ne_true
 | int i =>
  obtain ⟨t,rfl⟩:=rx
  cases y with
  | non=>cases ry; exact PySem.EqNone.ne_int_none (fin_bl I q (by simp))
  | int j=>obtain ⟨t',rfl⟩:=ry; exact ne_int (fin_bl I q (congrArg not dec_int))
  | str j=>obtain ⟨t',rfl⟩:=ry; exact PySem.EqMixed.ne_int_str (fin_bl I q (by simp))
  | _=>exact absurd (show false = true from hs) Bool.false_ne_true
 | str i =>
  obtain ⟨t,rfl⟩:=rx
  cases y with
  | non=>cases ry; exact PySem.EqNone.ne_str_none (fin_bl I q (by simp))
  | bl j=>cases ry; exact PySem.EqMixed.ne_str_bool (fin_bl I q (by simp))
  | int j=>obtain ⟨t',rfl⟩:=ry; exact PySem.EqMixed.ne_str_int (fin_bl I q (by simp))
  | str j=>obtain ⟨t',rfl⟩:=ry; exact ne_str (fin_bl I q (congrArg not dec_str))
  | _=>exact absurd (show false = true from hs) Bool.false_ne_true
 | byt i =>
  obtain ⟨t,rfl⟩:=rx
  cases y with
  | byt j=>obtain ⟨t',rfl⟩:=ry; exact PySem.W.ne_bytes (fin_bl I q (congrArg not dec_byt))
  | _=>exact absurd (show false = true from hs) Bool.false_ne_true
 | _=>cases y <;> exact absurd (show false = true from hs) Bool.false_ne_true
theorem op_lt : OpR X (compareOp .Lt) (rI0 fun i j=>.bl (decide (i < j))):=opB0 fun _ _ _ _ _ _ _ q=>lt_int q
theorem op_le : OpR X (compareOp .LtE) (rI0 fun i j=>.bl (decide (i <= j))):=opB0 fun _ _ _ _ _ _ _ q=>le_int q
theorem op_gt : OpR X (compareOp .Gt) (rI0 fun i j=>.bl (decide (j < i))):=opB0 fun _ _ _ _ _ _ _ q=>gt_int q
theorem op_in_str : OpR X (compareOp .In) (fun x y H Q=>∃ i j,x = .str i /\ y = .str j /\ Q (.bl (!(Builtin.Str.occurrences j i 0 j.length 1).isEmpty)) H):=by
 intro pins s σ H x y v u Q I rx ry h
 obtain ⟨i,j,rfl,rfl,q⟩:=h
 obtain ⟨t,rfl⟩:=rx
 obtain ⟨t',rfl⟩:=ry
 exact in_str (fin_bl I q rfl)
theorem op_isN : OpR X (compareOp .Is) (fun x y H Q=>y = .non /\ Q (.bl (decide (x = .non))) H):=by
 intro pins s σ H x y v u Q I rx ry h
 obtain ⟨rfl,q⟩:=h
 cases ry
 refine is_none_gen (fin_bl I q ?_)
 cases x <;> first
  | (cases rx; rfl)
  | (obtain ⟨t,rfl⟩:=rx; rfl)
theorem OpR.or {f : Value -> Value -> Sem Value} {r r' : R2} (h : OpR X f r) (h' : OpR X f r') : OpR X f (fun x y H Q=>r x y H Q ∨ r' x y H Q):=by
 intro pins s σ H x y v u Q I rx ry q
 rcases q with q | q
 ·exact h pins s σ H x y v u Q I rx ry q
 ·exact h' pins s σ H x y v u Q I rx ry q
theorem nomark (b : Expr) {op : CmpOp} (h : op ≠ .In:=by decide) (h2 : op ≠ .NotIn:=by decide) : behindInMarks op b = false:=by
 have e1 : (op == CmpOp.In) = false:=by cases op <;> first | rfl | exact absurd rfl h
 have e2 : (op == CmpOp.NotIn) = false:=by cases op <;> first | rfl | exact absurd rfl h2
 cases b <;> simp [behindInMarks,e1,e2]
theorem pe_cmpR {op : CmpOp} {r : R2} (ho : OpR X (compareOp op) r) (ha : PE X a ta) (hb : PE X b tb) (hm : behindInMarks op b = false) : PE X (.Compare a [op] [b] pos) (tOp r ta tb):=by
 intro pins s σ H Q I h
 exact wpAny_Compare1 (binT ha hb I h fun v u s2 x y H2 I2 rx ry q=>ho pins s2 σ H2 x y v u Q I2 rx ry q) hm
def tTest (t : TE) : TT:=fun σ H Q=>t σ H fun x H'=>∃ k,x = .bl k /\ Q k H'
theorem pt_cmpR {op : CmpOp} {r : R2} (ho : OpR X (compareOp op) r) (ha : PE X a ta) (hb : PE X b tb) (hm : behindInMarks op b = false) : PT X (.Compare a [op] [b] pos) (tTest (tOp r ta tb)):=by
 intro pins s σ H Q I h
 refine wpAny_isTrue_Compare1 (thn (ha pins s σ H _ I h) fun v s1 ⟨x,H1,I1,r1,q1⟩=>thn (hb pins s1 σ H1 _ I1 q1) fun u s2 ⟨y,H2,I2,r2,q2⟩ =>
  thn (ho pins s2 σ H2 x y v u _ I2 r1 r2 q2) fun c s3 ⟨z,H3,I3,r3,k,e,q3⟩=>?_) hm
 subst e
 cases r3
 exact wpAny_truthy_bool ⟨H3,I3,q3⟩
def tChain (r r' : R2) (ta tb tc : TE) : TE:=fun σ H Q=>ta σ H fun x H1=>tb σ H1 fun y H2=>r x y H2 fun z H3=>∃ k,z = .bl k /\
 (if k = true then tc σ H3 fun w' H4=>r' y w' H4 Q else Q (.bl false) H3)
theorem pt_chain {op op' : CmpOp} {r r' : R2} (ho : OpR X (compareOp op) r) (ho' : OpR X (compareOp op') r') (ha : PE X a ta) (hb : PE X b tb) (hc : PE X c tc)
  (hm : lastMarks [op,op'] [b,c] = false:=by with_unfolding_all rfl) : PT X (.Compare a [op,op'] [b,c] pos) (tTest (tChain r r' ta tb tc)):=by
 intro pins s σ H Q I h
 refine isTrue_chain (thn (ha pins s σ H _ I h) fun v s1 ⟨x,H1,I1,r1,q1⟩=>test_link (thn (hb pins s1 σ H1 _ I1 q1) fun u s2 ⟨y,H2,I2,r2,q2⟩ =>
  thn (ho pins s2 σ H2 x y v u _ I2 r1 r2 q2) fun d s3 ⟨z,H3,I3,r3,k,e,q3⟩=>?_)) hm
 subst e
 cases r3
 refine wpAny_truthy_bool ?_
 cases k with
 | false =>
  obtain ⟨k',e',q'⟩:=q3
  cases e'
  exact ite_ff ⟨H3,I3,q'⟩
 | true =>
  refine ite_tt (test_last (thn (hc pins s3 σ H3 _ I3 q3) fun w' s4 ⟨z',H4,I4,r4,q4⟩=>thn (ho' pins s4 σ H4 y z' u w' _ I4 r2 r4 q4) fun d' s5 ⟨z2,H5,I5,r5,k2,e2,q5⟩=>?_))
  subst e2
  cases r5
  exact wpAny_truthy_bool ⟨H5,I5,q5⟩
theorem line63 : (sizeLine : Nat) < 2 ^ 63:=by rw [sizeLine_eq]; decide
theorem op_add_str : OpR X (binaryOp .Add) (fun x y H Q=>∃ i j,x = .str i /\ y = .str j /\ i.length + j.length <= sizeLine /\ Q (.str (i ++ j)) H):=by
 intro pins s σ H x y v u Q I rx ry h
 obtain ⟨i,j,rfl,rfl,hz,q⟩:=h
 obtain ⟨t,rfl⟩:=rx
 obtain ⟨t',rfl⟩:=ry
 exact add_str (fun t' tk=>⟨.str (i ++ j),H,I.tok _,⟨_,rfl⟩,q⟩) hz
theorem vals1 {x : V} {us : List Value} (r : Vals [x] us) : ∃ u,us = [u] /\ RelV x u:=by
 cases r with
 | cons r1 r2=>cases r2; exact ⟨_,rfl,r1⟩
theorem vals2 {x y : V} {us : List Value} (r : Vals [x,y] us) : ∃ u w',us = [u,w'] /\ RelV x u /\ RelV y w':=by
 cases r with
 | cons r1 r2 =>
  cases r2 with
  | cons r3 r4=>cases r4; exact ⟨_,_,rfl,r1,r3⟩
theorem call_max2 (hc : X.calm = true) : CallR X (.builtin "max") (fun xs H Q=>∃ i j,xs = [.int i,.int j] /\ Q (.int (if j > i then j else i)) H):=by
 intro pins s σ H xs us Q I r h
 obtain ⟨i,j,rfl,q⟩:=h
 obtain ⟨u,w',rfl,⟨t,rfl⟩,⟨t',rfl⟩⟩:=vals2 r
 refine max_two_ints (I.ok.hd hc) fun h' tk k=>⟨_,H,I.kept k,?_,q⟩
 by_cases hj : j > i
 ·rw [if_pos hj,if_pos hj]; exact ⟨_,rfl⟩
 ·rw [if_neg hj,if_neg hj]; exact ⟨_,rfl⟩
theorem call_min2 (hc : X.calm = true) : CallR X (.builtin "min") (fun xs H Q=>∃ i j,xs = [.int i,.int j] /\ Q (.int (if j < i then j else i)) H):=by
 intro pins s σ H xs us Q I r h
 obtain ⟨i,j,rfl,q⟩:=h
 obtain ⟨u,w',rfl,⟨t,rfl⟩,⟨t',rfl⟩⟩:=vals2 r
 refine min_two_ints (I.ok.hd hc) fun h' tk k=>⟨_,H,I.kept k,?_,q⟩
 by_cases hj : j < i
 ·rw [if_pos hj,if_pos hj]; exact ⟨_,rfl⟩
 ·rw [if_neg hj,if_neg hj]; exact ⟨_,rfl⟩
theorem call_int1 : CallR X (.type "int") (fun xs H Q=>(∃ i,xs = [.int i] /\ Q (.int i) H) ∨ ∃ k,xs = [.bl k] /\ Q (.int (if k then 1 else 0)) H):=by
 intro pins s σ H xs us Q I r h
 rcases h with ⟨i,rfl,q⟩ | ⟨k,rfl,q⟩
 ·obtain ⟨u,rfl,t,rfl⟩:=vals1 r
  exact call_int_int ⟨.int i,H,I,⟨_,rfl⟩,q⟩
 ·obtain ⟨u,rfl,r1⟩:=vals1 r
  cases r1
  exact call_int_bool ⟨.int (if k then 1 else 0),H,I.tok _,⟨_,rfl⟩,q⟩
end
end L2
namespace L2
open PySem PySem.Spec PyProof.Rows
structure ObjM (h : Heap) (x dx C : Addr) (mA : Str -> Option Value) : Prop where
 obj : h.get? x = some (PySem.W.instObj C dx)
 ns : h.Ns1 dx mA
 ne : dx ≠ x
theorem lookIn_ns {h : Heap} {dx : Addr} {mA : Str -> Option Value} (n : h.Ns1 dx mA) : ∃ od,h.get? dx = some od /\ ∀ name,PySem.W.lookIn name od = some (mA name):=by
 obtain ⟨o,es,ep,ho,hd,hk,_,hm⟩:=n
 refine ⟨o,ho,fun name=>?_⟩
 have e:=hm name
 unfold nsFind findBy at e
 rw [<- Array.find?_toList] at e
 unfold PySem.W.lookIn
 rw [hd]
 dsimp only
 split
 ·rename_i y q
  rw [q] at e
  exact congrArg some e
 ·rename_i q
  rw [q] at e
  have a : es.toList.any (·.refKey) = false:=by
   rw [List.any_eq_false]
   intro y hy
   obtain ⟨z,t,hkey⟩:=hk y (Array.mem_toList_iff.mp hy)
   simp [DictEntry.refKey,hkey]
  have a' : ¬ es.toList.any (·.refKey) = true:=by rw [a]; exact Bool.false_ne_true
  rw [if_neg a']
  exact congrArg some e
theorem ObjM.look {h : Heap} {x dx C : Addr} {mA : Str -> Option Value} (I : ObjM h x dx C mA) : ∃ od,PySem.W.InstAt h x (PySem.W.instObj C dx) C (some od) /\ ∀ name,PySem.W.lookIn name od = some (mA name) :=
 let ⟨od,ho,hl⟩:=lookIn_ns I.ns
 ⟨od,⟨I.obj,rfl,rfl,ho⟩,hl⟩
section
variable {prog : Program} {w : World} {A : Around} {E : Value -> Shared -> Prop} {s : Shared} {K : PySem.W.Frag} {x dx C f : Addr} {mA : Str -> Option Value} {name : Str} {v : Value}
end
theorem RelO.some_of {v : V} {o : Option Value} (r : RelO (some v) o) : ∃ u,o = some u /\ RelV v u:=by
 cases o with
 | none=>exact (show False from r).elim
 | some u=>exact ⟨u,rfl,r⟩
theorem handed_of {v : V} {u : Value} (r : RelV v u) : PySem.W.handedIn u = true:=by
 cases v with
 | non=>cases (show u = Value.none from r); rfl
 | bl b=>cases (show u = Value.bool b from r); rfl
 | int i=>obtain ⟨t,e⟩:=(show ∃ t,u = Value.int i t from r); cases e; rfl
 | str x=>obtain ⟨t,e⟩:=(show ∃ t,u = Value.str x t from r); cases e; rfl
 | byt b=>obtain ⟨t,e⟩:=(show ∃ t,u = Value.bytes b t from r); cases e; rfl
 | flt b=>obtain ⟨t,e⟩:=(show ∃ t,u = Value.float b t from r); cases e; rfl
 | ref a=>cases (show u = Value.ref a from r); rfl
 | ty n=>cases (show u = Value.type n from r); rfl
section
variable {P : Program} {w : World} {H H' : Hp} {h h' : Heap} {a C dx : Addr} {fs fs' : List (Str × V)}
theorem ins_get (hok : HOk P w H h) (e : H a = some (.ins C dx fs)) : ∃ mA,ObjM h a dx C mA /\ (∀ f,RelO (fs.lookup f) (mA f)) /\ PySem.Within mA (fs.map (·.1)) /\ fs.length <= 1000 /\ H dx = some (.own a):=by
 obtain ⟨d,z,ne,ob,mA,n,r,q⟩:=(show ObjOk P w H h a (.ins C dx fs) from hok a _ e)
 exact ⟨mA,⟨ob,n,ne⟩,r,q,z,d⟩
end
structure Cls (K : PySem.W.Frag) (C : Addr) : Prop where
 pg : PySem.W.plainGet K C Str.empty = true
 hd : PySem.W.hasDictIn K C = true
 po : PySem.W.plainOver K C = true
 sa : PySem.W.findIn K (.ref C) "__setattr__" = some (some (.builtin "object.__setattr__"))
theorem Cls.get {K : PySem.W.Frag} {C : Addr} (c : Cls K C) (f : Str) : PySem.W.plainGet K C f = true:=c.pg
def NoAttr (K : PySem.W.Frag) (C : Addr) (f : Str) : Prop:=PySem.W.findIn K (.ref C) f = some none
structure Con (K : PySem.W.Frag) (C : Addr) (f : Str) (v : V) (u : Value) : Prop where
 at_ : PySem.W.findIn K (.ref C) f = some (some u)
 rel : RelV v u
 get : PySem.W.specialIn K u "__get__" = some none
 cp : PySem.W.copiedNames.contains f = false
structure Meth (K : PySem.W.Frag) (C : Addr) (m : Str) (f : Addr) : Prop where
 at_ : PySem.W.findIn K (.ref C) m = some (some (.ref f))
 fn : PySem.W.isFn K (.ref f) = true
 kp : PySem.W.keepIn K (.ref f) = true
section
variable {X : Cx} {pins : List (Addr × Obj)} {σ : St} {H : Hp} {s : Shared} {a C dx : Addr} {fs : List (Str × V)} {f : Str} {v : V} {A : Around} {E : Value -> Shared -> Prop}
theorem attr_of {prog : Program} {w : World} {env : Env} {e : Expr} {f : Str} {pos : Pos} {s : Shared} {Q : Value -> Shared -> Prop} (hb : attributeBase e f env (eval e env) = eval e env)
  (h : wpAny (model prog w) A (eval e env) (fun o s₁=>wpAny (model prog w) A (getAttr o f true) Q E s₁) E s) : wpAny (model prog w) A (eval (.Attribute e f pos) env) Q E s :=
 Attribute_any_ h (by rw [arm_eval_Attribute,hb])
end
section
variable {X : Cx} {o e value : Expr} {f : Str} {pos pos' tpos : Pos} {ta tv : TE}
end
section
variable {X : Cx} {pins : List (Addr × Obj)} {σ : St} {H : Hp} {s : Shared} {A : Around} {E : Value -> Shared -> Prop} {Q : Value -> Shared -> Prop} {c : Value} {b : Bool}
inductive TyOf (K : PySem.W.Frag) (H : Hp) : V -> Value -> Prop where
 | non : TyOf K H .non (.type "NoneType")
 | bl (x : Bool) : TyOf K H (.bl x) (.type "bool")
 | int (i : Int) : TyOf K H (.int i) (.type "int")
 | str (x : Str) : TyOf K H (.str x) (.type "str")
 | flt (x : UInt64) : TyOf K H (.flt x) (.type "float")
 | lst {a : Addr} {xs : List V} (e : H a = some (.lst xs)) : TyOf K H (.ref a) (.type "list")
 | frz {a : Addr} {o : Obj} {xs : List V} (e : H a = some (.frz o (.lst xs))) : TyOf K H (.ref a) (.type "list")
 | tup {a : Addr} {xs : List V} (e : H a = some (.tup xs)) : TyOf K H (.ref a) (.type "tuple")
 | dK {a : Addr} {kvs : List (Key × V)} (e : H a = some (.dK kvs)) : TyOf K H (.ref a) (.type "dict")
 | dT {a : Addr} {kvs : List (List Key × V)} (e : H a = some (.dT kvs)) : TyOf K H (.ref a) (.type "dict")
 | ins {a C dx : Addr} {fs : List (Str × V)} (e : H a = some (.ins C dx fs)) (cl : Cls K C) (ha : PySem.W.findIn K (.ref C) "__class__" = some (some (.builtin "object.__class__")))
   (hn : PySem.W.specialIn K (.builtin "object.__class__") "__get__" = some (some (.builtin "getset_descriptor.__get__"))) (htk : PySem.W.takesIn K (.builtin "object.__class__") = some true)
   (hm : PySem.W.mroIn K C (.type "object") = some true) : TyOf K H (.ref a) (.ref C)
theorem isinst_ok {x : V} {u t : Value} (I : Inv X pins σ H s) (rx : RelV x u) (ty : TyOf X.K H x t) (e : PySem.W.kitOne X.K t c = some b) (h : ∀ tk,Q (.bool b) { s with toks:=tk }) :
  wpAny (model X.prog X.w) A (call (.builtin "isinstance") [u,c]) Q E s:=by
 cases ty with
 | non=>cases (show u = Value.none from rx); exact PySem.W.kia_one PySem.W.kitx_none I.kIn True.intro e (fun z=>nomatch z) h
 | bl y=>cases (show u = Value.bool y from rx); exact PySem.W.kia_one PySem.W.kitx_bool I.kIn True.intro e (fun z=>nomatch z) h
 | int i=>obtain ⟨t,q⟩:=(show ∃ t,u = Value.int i t from rx); cases q; exact PySem.W.kia_one PySem.W.kitx_int I.kIn True.intro e (fun z=>nomatch z) h
 | str y=>obtain ⟨t,q⟩:=(show ∃ t,u = Value.str y t from rx); cases q; exact PySem.W.kia_one PySem.W.kitx_str I.kIn True.intro e (fun z=>nomatch z) h
 | flt y=>obtain ⟨t,q⟩:=(show ∃ t,u = Value.float y t from rx); cases q; exact PySem.W.kia_one PySem.W.kitx_float I.kIn True.intro e (fun z=>nomatch z) h
 | @lst a xs ea =>
  cases (show u = Value.ref a from rx)
  obtain ⟨_,_,n,_,h1⟩:=(show ObjOk X.prog X.w H s.heap a (.lst xs) from I.hok a _ ea)
  exact PySem.W.kia_one PySem.W.kitx_list I.kIn ⟨_,h1,rfl⟩ e (fun z=>nomatch z) h
 | @frz a ob xs ea =>
  cases (show u = Value.ref a from rx)
  obtain ⟨_,_,_,n,_,h1⟩:=(show ObjOk X.prog X.w H s.heap a (.frz ob (.lst xs)) from I.hok a _ ea)
  exact PySem.W.kia_one PySem.W.kitx_list I.kIn ⟨_,h1,rfl⟩ e (fun z=>nomatch z) h
 | @tup a xs ea =>
  cases (show u = Value.ref a from rx)
  obtain ⟨_,_,_,p⟩:=(show ObjOk X.prog X.w H s.heap a (.tup xs) from I.hok a _ ea)
  obtain ⟨o,h1,h2,_⟩:=p
  exact PySem.W.kia_one PySem.W.kitx_tuple I.kIn ⟨o,h1,h2⟩ e (fun z=>nomatch z) h
 | @dK a kvs ea =>
  cases (show u = Value.ref a from rx)
  obtain ⟨_,_,vs,_,p⟩:=(show ObjOk X.prog X.w H s.heap a (.dK kvs) from I.hok a _ ea)
  obtain ⟨o,es,ep,h1,h2,_⟩:=p
  exact PySem.W.kia_one PySem.W.kitx_dict I.kIn ⟨o,h1,h2.1⟩ e (fun z=>nomatch z) h
 | @dT a kvs ea =>
  cases (show u = Value.ref a from rx)
  obtain ⟨_,_,xs,_,o,es,ep,h1,h2,_⟩:=(show ObjOk X.prog X.w H s.heap a (.dT kvs) from I.hok a _ ea)
  exact PySem.W.kia_one PySem.W.kitx_dict I.kIn ⟨o,h1,h2.1⟩ e (fun z=>nomatch z) h
 | @ins a C dx fs ea cl ha hn htk hm =>
  cases (show u = Value.ref a from rx)
  obtain ⟨mA,O,_⟩:=ins_get I.hok ea
  obtain ⟨od,J,_⟩:=O.look
  exact PySem.W.kia_one (PySem.W.kitx_own (cl.get _) cl.hd ha hn htk hm) I.kIn J e (fun z=>nomatch z) h
end
end L2
namespace L2
open PySem PySem.Spec PyProof.Rows
structure Room (k : Nat) (A : Around) : Prop where
 hd : A.handled = none
 dp : A.depth + 3 * k + 5 < recursionLimit
 un : A.units + 16 * k + 200 < cLine
 gd : A.guards = some []
theorem Room.mono {j k : Nat} {A : Around} (r : Room k A) (h : j <= k) : Room j A:=⟨r.hd,by have:=r.dp; omega,by have:=r.un; omega,r.gd⟩
theorem Room.deeper {k : Nat} {A : Around} (r : Room (k + 1) A) (env : Env) : Room k (A.deeper env) :=
 ⟨r.hd,by have:=r.dp; show A.depth + 1 + 3 * k + 5 < _; omega,by have:=r.un; show A.units + 3 + 16 * k + 200 < _; omega,r.gd⟩
theorem Room.in1 {k : Nat} {A : Around} (r : Room (k + 1) A) : Room k A.in1 :=
 ⟨r.hd,by have:=r.dp; show A.depth + 3 * k + 5 < _; omega,by have:=r.un; show A.units + 1 + 16 * k + 200 < _; omega,r.gd⟩
theorem make_depth {A : Around} {C : Addr} {us : List Value} {kw : List (Str × Value)} : (A.under (.builtin "type.__call__" ⟨.ref C :: us,kw⟩)).depth = A.depth + 1:=by
 first | rfl | simp [Around.under,Code.weight,Code.isCreation,Code.isGuard,Code.isCaller,Code.frames,Code.isFrame,guardIds]
theorem make_units {A : Around} {C : Addr} {us : List Value} {kw : List (Str × Value)} : (A.under (.builtin "type.__call__" ⟨.ref C :: us,kw⟩)).units = A.units + 1:=by
 first | rfl | simp [Around.under,Code.cUnits,Code.frames,Code.isFrame]
theorem make_guards {A : Around} {C : Addr} {us : List Value} {kw : List (Str × Value)} : (A.under (.builtin "type.__call__" ⟨.ref C :: us,kw⟩)).guards = A.guards:=by
 first | rfl | simp [Around.under,Code.guards,Code.isGuard,guardIds,pushGuards]
theorem Room.make {k : Nat} {A : Around} (r : Room (k + 1) A) (C : Addr) (us : List Value) (kw : List (Str × Value)) : Room k (A.under (.builtin "type.__call__" ⟨.ref C :: us,kw⟩)) :=
 ⟨r.hd,by have:=r.dp; rw [make_depth]; omega,by have:=r.un; rw [make_units]; omega,by rw [make_guards]; exact r.gd⟩
theorem Room.depth {k : Nat} {A : Around} (r : Room k A) : A.depth < recursionLimit:=by have:=r.dp; omega
theorem Room.units {k : Nat} {A : Around} (r : Room k A) : A.units + 64 < cLine:=by have:=r.un; omega
theorem Room.units0 {k : Nat} {A : Around} (r : Room k A) : A.units < cLine:=by have:=r.un; omega
def tNil : TA:=fun _ H Q=>Q [] H
def tCons (ta : TE) (tr : TA) : TA:=fun σ H Q=>ta σ H fun x H1=>tr σ H1 fun xs H2=>Q (x :: xs) H2
section
variable {X : Cx} {e : Expr} {es : List Expr} {te : TE} {t : TA} {pos : Pos}
theorem pa_nil : PA X [] tNil:=fun _ _ _ _ H Q I h=>Calls.spliced_nil ⟨[],H,I,.nil,h⟩
theorem pa_cons (ha : PE X e te) (hr : PA X es t) (hs : starEach (e :: es) X.env = (false,eval e X.env) :: starEach es X.env:=by rfl) : PA X (e :: es) (tCons te t):=by
 intro pos pins s σ H Q I h
 rw [hs]
 show wpAny _ _ (spliced ((false,eval e X.env) :: backTo pos (starEach es X.env))) _ _ s
 refine Calls.spliced_cons (thn (ha pins s σ H _ I h) fun u s1 ⟨x,H1,I1,r1,q1⟩=>?_)
 exact thn (hr pos pins s1 σ H1 _ I1 q1) fun us s2 ⟨xs,H2,I2,r2,q2⟩=>⟨x :: xs,H2,I2,.cons r1 r2,q2⟩
def tTup (t : TA) : TE:=fun σ H Q=>t σ H fun xs H1=>xs.length <= sizeLine /\ ∀ p,H1 p = none -> Q (.ref p) (upd H1 p (.tup xs))
def tLst (t : TA) : TE:=fun σ H Q=>t σ H fun xs H1=>xs.length <= sizeLine /\ ∀ p,H1 p = none -> Q (.ref p) (upd H1 p (.lst xs))
theorem pe_tup {x1} (h : PA X es t) : PE X (.Tuple es x1 pos) (tTup t):=by
 intro pins s σ H Q I hq
 refine wpAny_Tuple_spliced (thn (h pos pins s σ H _ I hq) fun us s1 ⟨xs,H1,I1,r,z,q⟩=>⟨by rw [<- r.length]; exact z,?_⟩)
 have hf : H1 s1.heap.objs.size = none:=I1.hok.fresh (Nat.le_refl _)
 refine ⟨.ref s1.heap.objs.size,upd H1 s1.heap.objs.size (.tup xs),I1.laid (t':=s1.toks) (fun b u e=>Heap.get?_push_of_some _ e) (Nat.le_refl _) ?_,rfl,q _ hf⟩
 exact ⟨z,us,r,⟨_,Heap.get?_push_size _ rfl,rfl,_,rfl⟩⟩
theorem pe_lst (h : PA X es t) : PE X (.List es pos) (tLst t):=by
 intro pins s σ H Q I hq
 refine wpAny_List_spliced (thn (h pos pins s σ H _ I hq) fun us s1 ⟨xs,H1,I1,r,z,q⟩=>⟨by rw [<- r.length]; exact z,?_⟩)
 have hf : H1 s1.heap.objs.size = none:=I1.hok.fresh (Nat.le_refl _)
 refine ⟨.ref s1.heap.objs.size,upd H1 s1.heap.objs.size (.lst xs),I1.laid (t':=s1.toks) (fun b u e=>Heap.get?_push_of_some _ e) (Nat.le_refl _) ?_,rfl,q _ hf⟩
 exact ⟨z,us,0,r,Heap.get?_push_size _ rfl⟩
end
abbrev Sp:=List V -> Hp -> VK -> XK -> Prop
abbrev CXT:=List Env -> Hp -> Shared -> XK -> Value -> Shared -> Prop
structure Env0 (P : Program) (w : World) (K : PySem.W.Frag) (mg : Str -> Option Value) (base : Heap) (A : Around) (outer : List Env) (s : Shared) (H : Hp) : Prop where
 frames : A.frames = some outer
 mod : Mod K mg base
 bs : ∀ b o,base.get? b = some o -> s.heap.get? b = some o /\ H b = none
 bsz : base.objs.size <= s.heap.objs.size
 funs : s.heap.FunFrames base outer
 frf : ∀ b ∈ frs outer,H b = none
 hok : HOk P w H s.heap
 bare : AllBare s.gens
def CE (outer : List Env) (P : Program) (w : World) (H : Hp) (s : Shared) (Q : VK) (u : Value) (s' : Shared) : Prop :=
 ∃ v H',s'.os = s.os /\ AllBare s'.gens /\ Un (frs outer) [] H H' s.heap s'.heap /\ HOk P w H' s'.heap /\ RelV v u /\ Q v H'
def CR (CX : CXT) (outer : List Env) (P : Program) (w : World) (H : Hp) (s : Shared) (Q : VK) (E : XK) (r : Result) (s' : Shared) : Prop :=
 match r with
 | .ok (.ret u)=>CE outer P w H s Q u s'
 | .ok _=>False
 | .error e=>CX outer H s E e s'
structure FnOk (P : Program) (w : World) (K : PySem.W.Frag) (mg : Str -> Option Value) (base : Heap) (CX : CXT) (k : Nat) (f : Addr) (fd : FuncData) (ps : List Str) (sp : Sp) : Prop where
 len : ∀ vs H Q E,sp vs H Q E -> vs.length = ps.length
 run : ∀ (A : Around) (outer : List Env) (s : Shared) (H : Hp) (args : Args) (us : List Value) (vs : List V) (Q : VK) (E : XK),Room k A -> Env0 P w K mg base A outer s H -> BindsTo s fd args (ps.zip us) -> Vals vs us -> sp vs H Q E ->
  codeAny (model P w) A (.call (.ref f) args) (CR CX outer P w H s Q E) s
theorem FnOk.mono {P : Program} {w : World} {K : PySem.W.Frag} {mg : Str -> Option Value} {base : Heap} {CX : CXT} {j k : Nat} {f : Addr} {fd : FuncData} {ps : List Str} {sp : Sp} (F : FnOk P w K mg base CX j f fd ps sp) (h : j <= k) :
  FnOk P w K mg base CX k f fd ps sp:=⟨F.len,fun A outer s H args us vs Q E hr=>F.run A outer s H args us vs Q E (hr.mono h)⟩
theorem FnOk.imp {P : Program} {w : World} {K : PySem.W.Frag} {mg : Str -> Option Value} {base : Heap} {CX : CXT} {k : Nat} {f : Addr} {fd : FuncData} {ps : List Str} {sp sp' : Sp} (F : FnOk P w K mg base CX k f fd ps sp)
  (h : ∀ vs H Q E,sp' vs H Q E -> sp vs H Q E) : FnOk P w K mg base CX k f fd ps sp' :=
 ⟨fun vs H Q E q=>F.len vs H Q E (h _ _ _ _ q),fun A outer s H args us vs Q E hr he hb hv hs=>F.run A outer s H args us vs Q E hr he hb hv (h _ _ _ _ hs)⟩
theorem Env0.make {P : Program} {w : World} {K : PySem.W.Frag} {mg : Str -> Option Value} {base : Heap} {A : Around} {outer : List Env} {s : Shared} {H : Hp} (e : Env0 P w K mg base A outer s H) (C : Addr) (us : List Value) (kw : List (Str × Value)) :
  Env0 P w K mg base (A.under (.builtin "type.__call__" ⟨.ref C :: us,kw⟩)) outer s H:=⟨by first | exact e.frames | (simpa [Around.under,Code.envs,Code.isFrame,pushEnvs] using e.frames),e.mod,e.bs,e.bsz,e.funs,e.frf,e.hok,e.bare⟩
theorem Env0.in1 {P : Program} {w : World} {K : PySem.W.Frag} {mg : Str -> Option Value} {base : Heap} {A : Around} {outer : List Env} {s : Shared} {H : Hp} (e : Env0 P w K mg base A outer s H) :
  Env0 P w K mg base A.in1 outer s H:=⟨e.frames,e.mod,e.bs,e.bsz,e.funs,e.frf,e.hok,e.bare⟩
section
variable {X : Cx} {pins : List (Addr × Obj)} {σ : St} {H : Hp} {s s' : Shared}
theorem Inv.env0 (I : Inv X pins σ H s) : Env0 X.prog X.w X.K X.mg X.base X.A X.stack s H :=
 ⟨I.ok.frames,I.ok.mod,I.bs,Nat.le_trans I.ok.bsz I.sz,I.stack,I.stkFree,I.hok,I.bare⟩
theorem Inv.after {Q : VK} {u : Value} (I : Inv X pins σ H s) (h : CE X.stack X.prog X.w H s Q u s') : EP X pins σ Q u s':=by
 obtain ⟨v,H',os,bare,un,hok,r,q⟩:=h
 obtain ⟨hh,g,d,t,os'⟩:=s'
 obtain rfl : os' = s.os:=os
 exact ⟨v,H',I.call (h':=hh) (g':=g) (d':=d) (t':=t) (ch:=[]) un hok bare (fun b z=>absurd z (by simp)),r,q⟩
end
def tCall (sp : Sp) (dvs : List V) (E : XK) (t : TA) : TE:=fun σ H Q=>t σ H fun vs H1=>sp (vs ++ dvs) H1 Q E
def Binds (K : PySem.W.Frag) (fd : FuncData) (ps : List Str) (ds : List Value) : Prop :=
 ∀ (s : Shared) (us : List Value),K.In s.heap -> (us ++ ds).length = ps.length -> BindsTo s fd ⟨us,[]⟩ (ps.zip (us ++ ds))
theorem Binds.all {K : PySem.W.Frag} {fd : FuncData} {ps : List Str} (h : ∀ us : List Value,us.length = ps.length -> bindArgs fd ⟨us,[]⟩ = pure (ps.zip us)) : Binds K fd ps []:=fun s us _ hl=>by
 rw [List.append_nil] at hl ⊢
 exact .of_eq (h us hl)
def Passes (CX : CXT) (X : Cx) (E : XK) : Prop:=∀ (pins : List (Addr × Obj)) (σ : St) (H : Hp) (s : Shared) (e : Value) (s' : Shared),Inv X pins σ H s -> CX X.stack H s E e s' -> X.xe e s'
section
variable {X : Cx} {CX : CXT} {k : Nat} {f C : Addr} {fd : FuncData} {ps : List Str} {sp : Sp} {dvs : List V} {ds : List Value} {E : XK} {x m : Str} {p pos apos : Pos} {e o : Expr} {es : List Expr} {ta : TE} {t : TA}
theorem run_fn {pins : List (Addr × Obj)} {σ : St} {H : Hp} {s : Shared} {Q : VK} {us : List Value} {vs : List V} (F : FnOk X.prog X.w X.K X.mg X.base CX k f fd ps sp) (hr : Room k X.A) (hb : Binds X.K fd ps ds) (hd : Vals dvs ds) (hx : Passes CX X E)
  (I : Inv X pins σ H s) (r : Vals vs us) (h : sp (vs ++ dvs) H Q E) : wpAny (model X.prog X.w) X.A (call (.ref f) us) (EP X pins σ Q) X.xe s:=by
 have r2 : Vals (vs ++ dvs) (us ++ ds):=r.append hd
 have hl : (us ++ ds).length = ps.length:=by rw [<- r2.length]; exact F.len _ _ _ _ h
 refine wpAny_call (codeAny_mono (F.run X.A X.stack s H ⟨us,[]⟩ (us ++ ds) (vs ++ dvs) Q E hr I.env0 (hb s us I.kIn hl) r2 h) fun r s' hq=>?_)
 cases r with
 | error e=>exact hx pins σ H s e s' I hq
 | ok fl =>
  cases fl with
  | ret u=>exact I.after hq
  | next=>exact False.elim hq
  | brk=>exact False.elim hq
  | cont=>exact False.elim hq
theorem pe_call (F : FnOk X.prog X.w X.K X.mg X.base CX k f fd ps sp) (hr : Room k X.A) (hg : Gl X x) (hm : X.mg x = some (.ref f)) (hk : PySem.W.keepIn X.K (.ref f) = true) (hb : Binds X.K fd ps ds) (hd : Vals dvs ds) (hx : Passes CX X E)
  (ha : PA X (e :: es) t) (hdb : (x == ("__debug__" : Str)) = false:=by decide) (he : starEach (e :: es) X.env = (false,eval e X.env) :: starEach es X.env:=by rfl) (hpl : (backTo pos (starEach es X.env)).any (·.1) = false:=by rfl) :
  PE X (.Call (.Name x p) (e :: es) [] pos) (tCall sp dvs E t):=by
 intro pins s σ H Q I h
 refine wpAny_Call_Name_kw (ld_glob I hg hm ?_ hdb)
 refine PySem.W.callWith_K (h₀:=X.base) I.ok.mod.kin hk (thn (ha pos pins s σ H _ I h) fun us s1 ⟨vs,H1,I1,r,q⟩=>⟨I1.kIn,?_⟩) he hpl
 exact run_fn F hr hb hd hx I1 r q
structure Mk (K : PySem.W.Frag) (C f : Addr) : Prop where
 makes : PySem.W.makesIn K C = true
 init : PySem.W.findIn K (.ref C) "__init__" = some (some (.ref f))
 fn : PySem.W.isFn K (.ref f) = true
 kp : PySem.W.keepIn K (.ref C) = true
end
section
variable {X : Cx} {CX : CXT} {k : Nat} {f C : Addr} {fd : FuncData} {ps ks : List Str} {sp : Sp} {E : XK} {x m : Str} {p pos apos kpos : Pos} {e o : Expr} {es : List Expr} {kws : List Keyword} {te ta : TE} {t tk : TA} {nm : Option Str}
structure KBinds (K : PySem.W.Frag) (fd : FuncData) (ps ks : List Str) (g : List Value -> List Value -> List Value) (gV : List V -> List V -> List V) : Prop where
 to : ∀ (s : Shared) (us ws : List Value),K.In s.heap -> (g us ws).length = ps.length -> BindsTo s fd ⟨us,ks.zip ws⟩ (ps.zip (g us ws))
 rel : ∀ {vs : List V} {us : List Value} {zs : List V} {ws : List Value},Vals vs us -> Vals zs ws -> Vals (gV vs zs) (g us ws)
variable {g : List Value -> List Value -> List Value} {gV : List V -> List V -> List V}
end
structure FnScope (N P : List Str) (sc : Scope) : Prop where
 kind : sc.kind = .function
 co : sc.isCoroutine = false
 gen : sc.isGenerator = false
 nd : N.Nodup
 pre : N.take P.length = P
 par : ∀ x ∈ P,sc.names.lookup x = some .local ∨ sc.names.lookup x = some .cell
 nofree : ∀ y ∈ sc.names,y.2 ≠ .free
theorem bindL_out {kindOf : Str -> Option NameKind} {x : Str} : ∀ {binds : List (Str × Value)} {m : Str -> Option Value},(∀ v,(x,v) ∉ binds) -> bindL kindOf binds m x = m x
 | [],_,_=>rfl
 | (n,v) :: r,m,h=>by
  unfold bindL
  rw [bindL_out fun w hw=>h w (List.mem_cons_of_mem _ hw)]
  split
  ·have : x ≠ n:=by rintro rfl; exact h v List.mem_cons_self
   simp [this]
  ·rfl
theorem bindC_out {kindOf : Str -> Option NameKind} {x : Str} : ∀ {binds : List (Str × Value)} {m : Str -> Option Value},(∀ v,(x,v) ∉ binds) -> bindC kindOf binds m x = m x
 | [],_,_=>rfl
 | (n,v) :: r,m,h=>by
  unfold bindC
  rw [bindC_out fun w hw=>h w (List.mem_cons_of_mem _ hw)]
  split
  ·rfl
  ·have : x ≠ n:=by rintro rfl; exact h v List.mem_cons_self
   simp [this]
theorem bindL_get {kindOf : Str -> Option NameKind} {x : Str} {v : Value} : ∀ {P : List Str} {vs : List Value} {i : Nat} {m : Str -> Option Value},P.Nodup -> P[i]? = some x -> vs[i]? = some v -> kindOf x = some .local ->
  bindL kindOf (P.zip vs) m x = some v
 | [],_,_,_,_,h,_,_=>by simp at h
 | _ :: _,[],_,_,_,_,h,_=>by simp at h
 | p :: P,w :: vs,0,m,nd,h1,h2,hk=>by
  simp at h1 h2; subst h1; subst h2
  show bindL kindOf ((p,w) :: P.zip vs) m p = _
  unfold bindL
  rw [bindL_out fun v hv=>(List.nodup_cons.mp nd).1 (List.of_mem_zip hv).1,if_pos hk]
  simp
 | p :: P,w :: vs,i + 1,m,nd,h1,h2,hk=>by
  show bindL kindOf ((p,w) :: P.zip vs) m x = _
  unfold bindL
  exact bindL_get (i:=i) (List.nodup_cons.mp nd).2 (by simpa using h1) (by simpa using h2) hk
theorem bindC_get {kindOf : Str -> Option NameKind} {x : Str} {v : Value} : ∀ {P : List Str} {vs : List Value} {i : Nat} {m : Str -> Option Value},P.Nodup -> P[i]? = some x -> vs[i]? = some v -> kindOf x ≠ some .local ->
  bindC kindOf (P.zip vs) m x = some v
 | [],_,_,_,_,h,_,_=>by simp at h
 | _ :: _,[],_,_,_,_,h,_=>by simp at h
 | p :: P,w :: vs,0,m,nd,h1,h2,hk=>by
  simp at h1 h2; subst h1; subst h2
  show bindC kindOf ((p,w) :: P.zip vs) m p = _
  unfold bindC
  rw [bindC_out fun v hv=>(List.nodup_cons.mp nd).1 (List.of_mem_zip hv).1,if_neg hk]
  simp
 | p :: P,w :: vs,i + 1,m,nd,h1,h2,hk=>by
  show bindC kindOf ((p,w) :: P.zip vs) m x = _
  unfold bindC
  exact bindC_get (i:=i) (List.nodup_cons.mp nd).2 (by simpa using h1) (by simpa using h2) hk
def start (N : List Str) (vs : List V) : St:=vs.map some ++ List.replicate (N.length - vs.length) none
def cxOf (CX : CXT) (P : Program) (w : World) (K : PySem.W.Frag) (mg : Str -> Option Value) (base : Heap) (N : List Str) (qual : Str) (scope : Scope) (f : Addr) (cd : Value) (A : Around) (outer : List Env) (s : Shared) (H : Hp) (E : XK) : Cx where
 prog:=P
 w:=w
 K:=K
 mg:=mg
 base:=base
 A:=A.deeper (envOfC qual scope s.heap.objs.size f cd)
 N:=N
 s₀:=s
 H₀:=H
 env:=envOfC qual scope s.heap.objs.size f cd
 outer:=outer
 stack:=envOfC qual scope s.heap.objs.size f cd :: outer
 ex:=[]
 calm:=true
 fn:=fun _=>true
 pn:=[]
 xe:=fun e s'=>wpAny (model P w) (A.deeper (envOfC qual scope s.heap.objs.size f cd)) (leaving (envOfC qual scope s.heap.objs.size f cd) e) (fun _ s''=>CX outer H s E e s'') (fun e' s''=>CX outer H s E e' s'') s'
theorem cell_has {sc : Scope} {n : Nat} {x : Str} (h : sc.names.lookup x = some .cell) : ∃ c,(cellsFrom n sc.names []).lookup x = some c:=by
 have q:=PySem.W.cellsFrom_some sc.names n [] (.inl h)
 exact Option.isSome_iff_exists.mp q
theorem inv_start {CX : CXT} {P : Program} {w : World} {K : PySem.W.Frag} {mg : Str -> Option Value} {base : Heap} {N ps : List Str} {qual : Str} {scope : Scope} {f : Addr} {cd : Value} {A : Around} {outer : List Env} {s s1 : Shared} {H : Hp} {E : XK} {us : List Value} {vs : List V}
  (S : FnScope N ps scope) (hd : A.handled = none) (e0 : Env0 P w K mg base A outer s H) (hl : vs.length = ps.length) (r : Vals vs us)
  (x : InCallC s s.heap.objs.size (bindL (envOfC qual scope s.heap.objs.size f cd).kindOf (ps.zip us) fun _=>none) (cellsFrom (s.heap.objs.size + 1) scope.names []) (bindC (envOfC qual scope s.heap.objs.size f cd).kindOf (ps.zip us) fun _=>none) s1) :
  Inv (cxOf CX P w K mg base N qual scope f cd A outer s H E) [] (start N vs) H s1:=by
 have hpl : ps.length <= N.length:=by have:=congrArg List.length S.pre; rw [List.length_take] at this; omega
 obtain ⟨h1,tk,rfl,hk⟩:=x.done
 have noA : ∀ b : Addr,b ∉ (cxOf CX P w K mg base N qual scope f cd A outer s H E).ex:=fun b z=>absurd (show b ∈ ([] : List Addr) from z) (by simp)
 refine ⟨⟨e0.mod,S.kind,rfl,rfl,Nat.le_refl _,fun y z c h1 h2=>?_,fun y hy=>?_,fun y c _ h=>?_,fun _=>hd,Around.frames_deeper e0.frames,.inr ⟨rfl,rfl⟩,fun b z=>absurd z (noA b),e0.bs,e0.bsz,fun b _ _=>noA b,fun b z=>absurd z (noA b),e0.funs,e0.frf⟩,
  rfl,e0.bare,Un.kept hk,⟨_,x.toInCall.ns,fun i y v h1 h2 h3=>?_⟩,fun y c h=>⟨_,x.cell y c h⟩,e0.hok.fresh (Nat.le_refl _),fun y c h=>?_,fun p hp=>absurd (show p ∈ ([] : List (Addr × Obj)) from hp) (by simp),e0.hok.kept hk,?_⟩
 ·exact name_of_addr x.apart (PySem.mem_of_lookup h1) (PySem.mem_of_lookup h2)
 ·have hy : scope.names.lookup y = some .cell ∨ scope.names.lookup y = some .free:=hy
  rcases hy with hy | hy
  ·exact cell_has hy
  ·exact absurd rfl (S.nofree _ (PySem.mem_of_lookup hy))
 ·exact Nat.le_of_lt (x.above y c (PySem.mem_of_lookup h))
 ·have hi : i < vs.length:=by
   unfold start at h2
   by_cases hi : i < vs.length
   ·exact hi
   ·rw [List.getElem?_append_right (by simpa using hi)] at h2
    rw [List.getElem?_replicate] at h2
    split at h2 <;> cases h2
  have ha : vs[i]? = some v:=by
   unfold start at h2
   rw [List.getElem?_append_left (by simpa using hi),List.getElem?_map] at h2
   cases e : vs[i]? with
   | none=>rw [e] at h2; cases h2
   | some a=>rw [e] at h2; cases h2; rfl
  obtain ⟨u,hu,rv⟩:=r.get ha
  have hp : ps[i]? = some y:=by
   rw [<- S.pre,List.getElem?_take_of_lt (by omega)]; exact h1
  have ndP : ps.Nodup:=by rw [<- S.pre]; exact S.nd.sublist (List.take_sublist _ _)
  refine ⟨u,rv,?_⟩
  rcases S.par y (List.mem_of_getElem? hp) with k | k
  ·exact .inl ⟨k,bindL_get ndP hp hu k⟩
  ·obtain ⟨c,e⟩:=cell_has (n:=s.heap.objs.size + 1) k
   refine .inr ⟨.inl k,c,e,?_⟩
   have q:=x.cell y c e
   rw [bindC_get ndP hp hu (by show scope.names.lookup y ≠ _; rw [k]; decide)] at q
   exact q
 ·exact e0.hok.fresh (Nat.le_of_lt (x.above y c (PySem.mem_of_lookup h)))
 ·unfold start
  show _ = N.length
  rw [List.length_append,List.length_map,List.length_replicate]
  omega
theorem fn_of {CX : CXT} {P : Program} {w : World} {K : PySem.W.Frag} {mg : Str -> Option Value} {base : Heap} {k : Nat} {f : Addr} {name qual : Str} {params : Arguments} {body : List Stmt} {scope : Scope} {dV kV doc pm cdv ct oc : Value} {an od : Option Addr}
  {osl : Array (Option Value)} {N ps : List Str} {sp : Sp} (lk : K.lookup f = some ⟨oc,od,.func (PySem.W.fnOf name qual params body scope dV kV doc pm an cdv ct),osl⟩) (hcd : PySem.W.codeIn K cdv qual = true) (S : FnScope N ps scope)
  (len : ∀ vs H Q E,sp vs H Q E -> vs.length = ps.length)
  (hbody : ∀ (A : Around) (outer : List Env) (s : Shared) (H : Hp) (vs : List V) (Q : VK) (E : XK),Room k (A.deeper (envOfC qual scope s.heap.objs.size f cdv)) -> sp vs H Q E ->
   ∃ t,PSs (cxOf CX P w K mg base N qual scope f cdv A outer s H E) body t /\ t { nx:=fun _ H'=>Q .non H',rt:=Q } (start N vs) H) :
  FnOk P w K mg base CX (k + 1) f (PySem.W.fnOf name qual params body scope dV kV doc pm an cdv ct) ps sp:=by
 refine ⟨len,fun A outer s H args us vs Q E hr e0 hb r hsp=>?_⟩
 have hl:=len _ _ _ _ hsp
 have KX : K.In s.heap:=e0.mod.kin.keeps fun b o e=>(e0.bs b o e).1
 have lim : s.heap.NoLimit:=e0.mod.nolimit.keeps fun b o e=>(e0.bs b o e).1
 have hkind : ∀ y ∈ ps.zip us,scope.names.lookup y.1 = some .local ∨ (scope.names.lookup y.1 = some .cell /\ ((cellsFrom (s.heap.objs.size + 1) scope.names []).lookup y.1).isSome = true):=fun ⟨n,v⟩ hy=>by
  rcases S.par n (List.of_mem_zip hy).1 with q | q
  ·exact .inl q
  ·exact .inr ⟨q,PySem.W.cellsFrom_some _ _ _ (.inl q)⟩
 refine codeAny_call_function hr.depth (KX _ _ lk) rfl S.co S.gen rfl (PySem.W.codeRec_of KX hcd) (hb _ _ _ _ ?_)
 refine wpAny_newFunctionEnv_cells S.kind hkind fun env he s1 x=>?_
 subst he
 refine ⟨lim.keeps x.toInCall.keep,codeAny_func ?_⟩
 obtain ⟨t,ht,hq⟩:=hbody A outer s H vs Q E (hr.deeper _) hsp
 have I : Inv (cxOf CX P w K mg base N qual scope f cdv A outer s H E) [] (start N vs) H s1:=inv_start S hr.hd e0 hl r x
 refine wpAny_mono (ht [] s1 (start N vs) H _ I hq) (fun fl s' hs=>?_) fun e s' hs=>hs
 have fin : ∀ {σ' : St} {H' : Hp} {v : V} {u : Value},Inv (cxOf CX P w K mg base N qual scope f cdv A outer s H E) [] σ' H' s' -> RelV v u -> Q v H' -> CE outer P w H s Q u s' :=
  fun {σ' H' v u} J rv q=>⟨v,H',J.os,J.bare,J.base,J.hok,rv,q⟩
 cases fl with
 | ret u =>
  obtain ⟨v,σ',H',J,rv,q⟩:=hs
  exact fin J rv q
 | next =>
  obtain ⟨σ',H',J,q⟩:=hs
  exact fin (v:=V.non) (u:=Value.none) J rfl q
 | brk =>
  obtain ⟨_,_,_,q⟩:=hs
  exact False.elim q
 | cont =>
  obtain ⟨_,_,_,q⟩:=hs
  exact False.elim q
end L2
namespace L2
open PySem PySem.Spec PyProof.Rows
section
variable {X : Cx} {x : Str} {p pos : Pos} {e : Expr} {es : List Expr} {t : TA} {id T : String} {r : List V -> Hp -> VK -> Prop}
def tCB (r : List V -> Hp -> VK -> Prop) (t : TA) : TE:=fun σ H Q=>t σ H fun vs H1=>r vs H1 Q
theorem pe_callB (hc : CallR X (.builtin id) r) (hg : Gl X x) (hm : X.mg x = none) (hv : bootBuiltins x = some (.builtin id)) (ha : PA X (e :: es) t) (hn : x ≠ "__name__":=by decide) (hdb : (x == ("__debug__" : Str)) = false:=by decide)
  (he : starEach (e :: es) X.env = (false,eval e X.env) :: starEach es X.env:=by rfl) (hpl : (backTo pos (starEach es X.env)).any (·.1) = false:=by rfl) : PE X (.Call (.Name x p) (e :: es) [] pos) (tCB r t):=by
 intro pins s σ H Q I h
 refine wpAny_Call_Name_kw (ld_blt I hg hm hv ?_ hn hdb)
 exact PyProof.Rows.callWith_builtin1 (thn (ha pos pins s σ H _ I h) fun us s1 ⟨vs,H1,I1,r1,q1⟩=>hc pins s1 σ H1 vs us Q I1 r1 q1) he hpl
theorem pe_callTy (hc : CallR X (.type T) r) (hg : Gl X x) (hm : X.mg x = none) (hv : bootBuiltins x = some (.type T)) (ha : PA X (e :: es) t) (hn : x ≠ "__name__":=by decide) (hdb : (x == ("__debug__" : Str)) = false:=by decide)
  (he : starEach (e :: es) X.env = (false,eval e X.env) :: starEach es X.env:=by rfl) (hpl : (backTo pos (starEach es X.env)).any (·.1) = false:=by rfl) : PE X (.Call (.Name x p) (e :: es) [] pos) (tCB r t):=by
 intro pins s σ H Q I h
 refine wpAny_Call_Name_kw (ld_blt I hg hm hv ?_ hn hdb)
 exact PyProof.Rows.callWith_type1 (thn (ha pos pins s σ H _ I h) fun us s1 ⟨vs,H1,I1,r1,q1⟩=>hc pins s1 σ H1 vs us Q I1 r1 q1) he hpl
end
end L2
namespace HT
open PySem PyProof.Rows
section
open PySem.SeqAt
open PySem.AutoSeq1 (wpAny_loadPart')
open PySem.MeetsSeq PySem.MeetsSeq2 PySem.MeetsSeq3
end
section
variable {prog : Program} {w : World} {A : Around} {E : Value -> Shared -> Prop} {s : Shared}
theorem cat_tup {t b : Addr} {vs ws : List Value} {Q : Value -> Shared -> Prop} (ht : IsTup s.heap t vs.toArray) (hb : IsTup s.heap b ws.toArray) (hv : vs ≠ [])
  (h1 : ws = [] -> Q (.ref t) s) (h2 : ws ≠ [] -> Q (.ref s.heap.objs.size) { s with heap:=s.heap.push { cls:=.type "tuple",data:=.seq (vs ++ ws).toArray } })
  (hsz : vs.length + ws.length <= sizeLine) : wpAny (model prog w) A (binaryOp .Add (.ref t) (.ref b)) Q E s:=by
 obtain ⟨⟨cls,dd,data,sl⟩,ho,hc,n,hd⟩:=id ht
 obtain ⟨⟨cls2,dd2,data2,sl2⟩,ho2,hc2,n2,hd2⟩:=id hb
 simp only at hc hd hc2 hd2
 subst hc hd hc2 hd2
 have e : vs.toArray ++ ws.toArray = (vs ++ ws).toArray:=by simp
 by_cases hw : ws = []
 ·exact concat_meets ⟨_,ho,rfl⟩ ⟨_,ho2,rfl⟩ noFill_tuple_add seq_tuple_add PySem.F.slot_tuple_add PySem.F.entry_tuple_add (PySem.F.args_tuple_add_2 _ _)
   (tuple_addW1 t b vs.toArray ws.toArray n n2 dd dd2 sl sl2 (by simpa using hv) (by simp [hw])) ⟨ho,ho2,h1 hw⟩
 ·refine concat_meets ⟨_,ho,rfl⟩ ⟨_,ho2,rfl⟩ noFill_tuple_add seq_tuple_add PySem.F.slot_tuple_add PySem.F.entry_tuple_add (PySem.F.args_tuple_add_2 _ _)
   (tuple_addW2 t b vs.toArray ws.toArray n n2 dd dd2 sl sl2 (by simpa using hv) (by simpa using hw) (by rw [List.size_toArray,List.size_toArray]; exact hsz)) ⟨ho,ho2,?_⟩
  rw [e]
  exact h2 hw
def sIx (n d : Nat) : Option Int -> Nat
 | none=>d
 | some v=>if v < 0 then (v + (n : Int)).toNat else min v.toNat n
theorem sIx_none (n d : Nat) : sIx n d none = d:=rfl
theorem sIx_nat (n d k : Nat) : sIx n d (some (k : Int)) = min k n:=by
 show (if (k : Int) < 0 then ((k : Int) + (n : Int)).toNat else min (k : Int).toNat n) = min k n
 rw [if_neg (by omega),Int.toNat_natCast]
theorem sIx_le (n d : Nat) (hd : d <= n) (o : Option Int) : sIx n d o <= n:=by
 cases o with
 | none=>exact hd
 | some v =>
  show (if v < 0 then (v + (n : Int)).toNat else min v.toNat n) <= n
  by_cases hv : v < 0
  ·rw [if_pos hv]; omega
  ·rw [if_neg hv]; exact Nat.min_le_right _ _
theorem clip_eq (v : Int) (n d : Nat) : (if v < 0 then max (v + (n : Int)) 0 else min v (n : Int)) = ((sIx n d (some v) : Nat) : Int):=by
 show (if v < 0 then max (v + (n : Int)) 0 else min v (n : Int)) = (((if v < 0 then (v + (n : Int)).toNat else min v.toNat n) : Nat) : Int)
 by_cases hv : v < 0
 ·simp only [if_pos hv]; omega
 ·simp only [if_neg hv]; omega
theorem adjust_gen (lo hi : Option Int) (n : Nat) : Builtin.Slice.sliceAdjust lo hi 1 (n : Int) = (((sIx n 0 lo : Nat) : Int),((sIx n n hi : Nat) : Int)):=by
 have h1 : ¬ ((1 : Int) < 0):=by omega
 unfold Builtin.Slice.sliceAdjust
 simp only [h1,if_false]
 refine Prod.ext ?_ ?_
 ·cases lo with
  | none=>rfl
  | some v=>exact clip_eq v n 0
 ·cases hi with
  | none=>rfl
  | some v=>exact clip_eq v n n
theorem places_gen (i j : Nat) : Builtin.Slice.slicePlaces (i : Int) (j : Int) 1 = j - i:=by
 unfold Builtin.Slice.slicePlaces
 have h1 : (1 : Int) > 0:=by omega
 simp only [h1,if_true,Int.ediv_one]
 split <;> omega
theorem slicePart_ {v : Value} {o : Option Int} {Q : Option Int -> Shared -> Prop} (p : IsPart v o) (h : Q o s) : wpAny (model prog w) A (Builtin.Slice.slicePartIndex v) Q E s:=by
 cases p with
 | none=>exact slicePart_none h
 | int i t=>exact slicePart_int h
theorem sliceApplied_gen {sl : Addr} {vl vu : Value} {lo hi : Option Int} {n : Nat} {Q : Int × Int × Nat -> Shared -> Prop} (hs : s.heap.IsSliceOf sl vl vu .none) (pl : IsPart vl lo) (pu : IsPart vu hi)
  (h : Q (((sIx n 0 lo : Nat) : Int),1,sIx n n hi - sIx n 0 lo) s) : wpAny (model prog w) A (Builtin.Slice.sliceApplied (.ref sl) (pure (n : Int))) Q E s:=by
 obtain ⟨os,hos,hcs,hds⟩:=id hs
 unfold Builtin.Slice.sliceApplied Builtin.Slice.sliceFields
 refine wpAny_bind (wpAny_bind (wpAny_field hos hds (x:=vl) rfl (wpAny_bind (wpAny_field hos hds (x:=vu) rfl (wpAny_bind (wpAny_field hos hds (x:=.none) rfl (wpAny_pure ?_)))))))
 refine wpAny_bind (slicePart_none ?_)
 show wpAny _ _ (if ((1 : Int) == 0) = true then _ else _) _ _ s
 rw [if_neg (by decide)]
 refine wpAny_bind (slicePart_ pl (wpAny_bind (slicePart_ pu (wpAny_bind (wpAny_pure ?_)))))
 show wpAny _ _ (match Builtin.Slice.sliceAdjust lo hi 1 (n : Int) with | (lo,hi)=>pure (lo,(1 : Int),Builtin.Slice.slicePlaces lo hi 1)) _ _ s
 rw [adjust_gen lo hi n]
 show wpAny _ _ (pure (((sIx n 0 lo : Nat) : Int),(1 : Int),Builtin.Slice.slicePlaces ((sIx n 0 lo : Nat) : Int) ((sIx n n hi : Nat) : Int) 1)) _ _ s
 rw [places_gen]
 exact wpAny_pure h
theorem pick_gen (xs : Array Value) (i k : Nat) : ((List.range k).filterMap fun (m : Nat)=>xs[((i : Int) + (m : Int) * 1).toNat]?).toArray = ((xs.toList.drop i).take k).toArray:=by
 have e : (fun (m : Nat)=>xs[((i : Int) + (m : Int) * 1).toNat]?) = fun m=>xs[i + m]?:=by
  funext m
  have : ((i : Int) + (m : Int) * 1).toNat = i + m:=by omega
  rw [this]
 rw [e]
 have:=pick_run xs i k
 rw [List.filterMap_map] at this
 have e2 : ((fun x=>xs[x]?) ∘ fun x=>i + x) = fun m=>xs[i + m]?:=rfl
 rw [e2] at this
 rw [this]
theorem getItem_tuple_cut {t sl : Addr} {items : Array Value} {vl vu : Value} {lo hi : Option Int} {Q : Value -> Shared -> Prop} (ht : IsTup s.heap t items) (hs : s.heap.IsSliceOf sl vl vu .none) (pl : IsPart vl lo) (pu : IsPart vu hi)
  (hw : ¬ (sIx items.size 0 lo = 0 /\ sIx items.size items.size hi = items.size))
  (h : Q (.ref s.heap.objs.size) { s with heap:=s.heap.push { cls:=.type "tuple",data:=.seq ((items.toList.drop (sIx items.size 0 lo)).take (sIx items.size items.size hi - sIx items.size 0 lo)).toArray } })
  (hsz : items.size <= sizeLine) : wpAny (model prog w) A (getItem (.ref t) (.ref sl)) Q E s:=by
 have htake : sizeOk (.seq ((items.toList.drop (sIx items.size 0 lo)).take (sIx items.size items.size hi - sIx items.size 0 lo)).toArray):=by
  show ((items.toList.drop (sIx items.size 0 lo)).take (sIx items.size items.size hi - sIx items.size 0 lo)).toArray.size <= sizeLine
  rw [List.size_toArray,List.length_take,List.length_drop,Array.length_toList]
  omega
 have hj : sIx items.size items.size hi <= items.size:=sIx_le _ _ (Nat.le_refl _) hi
 obtain ⟨os,hos,hcs,hds⟩:=id hs
 have hTs : s.TypeIs (.ref sl) "slice":=⟨os,hos,hcs⟩
 unfold getItem
 try with_reducible refine wpAny_holding ?_
 first | refine wpAny_bind (wpAny_pure ?_) | skip
 refine wpAny_bind (wpAny_sequenceKey ht.typeIs (by decide) ?_)
 refine wpAny_bind (wpAny_callSpecial?_slot (name:=Str.ofString "__getitem__") ht.typeIs PyProof.Rows.slot_tuple_getitem
  (wpAny_call_entry PyProof.Rows.slot_tuple_getitem ht.typeIs entry_tuple_getitem ?_ (args_tuple_getitem _ _)))
 show wpAny _ _ (Builtin.Tuple.tupleItemsOf (.ref t) >>= _) _ _ s
 refine wpAny_bind (tupleItemsOf_ ht ?_)
 refine wpAny_bind (wpAny_typeOf hTs ?_)
 rw [if_pos (by decide)]
 refine wpAny_bind (sliceApplied_gen hs pl pu ?_)
 have hno : ¬ ((((sIx items.size 0 lo : Nat) : Int) == 0 && (1 : Int) == 1 && (sIx items.size items.size hi - sIx items.size 0 lo) == items.size) = true):=by
  intro q
  rw [Bool.and_eq_true,Bool.and_eq_true] at q
  have q1 : ((sIx items.size 0 lo : Nat) : Int) = 0:=eq_of_beq q.1.1
  have q2 : sIx items.size items.size hi - sIx items.size 0 lo = items.size:=eq_of_beq q.2
  exact hw ⟨by omega,by omega⟩
 show wpAny _ _ (if (((sIx items.size 0 lo : Nat) : Int) == 0 && (1 : Int) == 1 && (sIx items.size items.size hi - sIx items.size 0 lo) == items.size) = true then _ else _) _ _ s
 rw [if_neg hno,pick_gen]
 first
  | exact wpAny_bind (m:=Builtin.Tuple.tupleExact _) (wpAny_newObj_type (wpAny_pure ⟨_,rfl,wpAny_pure h⟩) htake)
  | exact wpAny_bind (m:=Builtin.Tuple.tupleExact _) (wpAny_newObj_type (wpAny_bind (wpAny_pure (wpAny_pure ⟨_,rfl,wpAny_pure h⟩))) htake)
  | exact wpAny_bind (wpAny_bind (m:=Builtin.Tuple.tupleExact _) (wpAny_newObj_type (wpAny_pure (wpAny_pure ⟨_,rfl,wpAny_pure h⟩)) htake))
  | exact wpAny_bind (wpAny_bind (m:=Builtin.Tuple.tupleExact _) (wpAny_newObj_type (wpAny_pure ⟨_,rfl,wpAny_pure h⟩) htake))
end
end HT
namespace L2
open PySem PySem.Spec PyProof.Rows
abbrev TO:=St -> Hp -> (Option Int -> Hp -> Prop) -> Prop
def PO (X : Cx) (e : Option Expr) (t : TO) : Prop :=
 ∀ (pins : List (Addr × Obj)) (s : Shared) (σ : St) (H : Hp) (Q : Option Int -> Hp -> Prop),Inv X pins σ H s -> t σ H Q ->
  wpAny (model X.prog X.w) X.A (evalPart e X.env) (fun u s'=>∃ o H',Inv X pins σ H' s' /\ IsPart u o /\ Q o H') X.xe s
def tNoPart : TO:=fun _ H Q=>Q none H
def tPart (t : TE) : TO:=fun σ H Q=>t σ H fun x H1=>∃ i,x = .int i /\ Q (some i) H1
section
variable {X : Cx} {e : Expr} {te : TE} {lo hi : Option Expr} {tl th : TO} {pos p2 : Pos}
theorem po_none : PO X none tNoPart:=by
 intro pins s σ H Q I h
 rw [evalPart_none]
 exact wpAny_pure ⟨none,H,I,.none,h⟩
theorem po_some (h : PE X e te) : PO X (some e) (tPart te):=by
 intro pins s σ H Q I hw
 rw [evalPart_some]
 refine thn (h pins s σ H _ I hw) fun u s1 ⟨x,H1,I1,r1,q1⟩=>?_
 obtain ⟨i,rfl,q⟩:=q1
 obtain ⟨t,rfl⟩:=r1
 exact ⟨some i,H1,I1,.int i t,q⟩
def SlR (X : Cx) (r : V -> Option Int -> Option Int -> Hp -> VK -> Prop) : Prop :=
 ∀ (pins : List (Addr × Obj)) (s : Shared) (σ : St) (H : Hp) (x : V) (v vl vu : Value) (lo hi : Option Int) (sl : Addr) (Q : VK),Inv X pins σ H s -> RelV x v -> s.heap.IsSliceOf sl vl vu .none -> IsPart vl lo -> IsPart vu hi -> r x lo hi H Q ->
  ∃ T id,typeLookup (.type T) "__getitem__" = pure (some (.builtin id)) /\ s.TypeIs v T /\ wpAny (model X.prog X.w) X.A (getItem v (.ref sl)) (EP X pins σ Q) X.xe s
theorem SlR.or {r r' : V -> Option Int -> Option Int -> Hp -> VK -> Prop} (h : SlR X r) (h' : SlR X r') : SlR X (fun x lo hi H Q=>r x lo hi H Q ∨ r' x lo hi H Q):=by
 intro pins s σ H x v vl vu lo hi sl Q I rx hs pl pu q
 rcases q with q | q
 ·exact h pins s σ H x v vl vu lo hi sl Q I rx hs pl pu q
 ·exact h' pins s σ H x v vl vu lo hi sl Q I rx hs pl pu q
def tSl (r : V -> Option Int -> Option Int -> Hp -> VK -> Prop) (te : TE) (tl th : TO) : TE:=fun σ H Q=>te σ H fun x H1=>tl σ H1 fun l H2=>th σ H2 fun u H3=>r x l u H3 Q
theorem pe_slice {r : V -> Option Int -> Option Int -> Hp -> VK -> Prop} (hr : SlR X r) (he : PE X e te) (hl : PO X lo tl) (hu : PO X hi th) : PE X (.Subscript e (.Slice lo hi none p2) pos) (tSl r te tl th):=by
 intro pins s σ H Q I h
 refine Subscript_ (thn (he pins s σ H _ I h) fun v s1 ⟨x,H1,I1,r1,q1⟩=>?_)
 refine wpAny_Slice (thn (hl pins s1 σ H1 _ I1 q1) fun vl s2 ⟨l,H2,I2,pl,q2⟩=>thn (hu pins s2 σ H2 _ I2 q2) fun vu s3 ⟨u,H3,I3,pu,q3⟩=>?_)
 rw [evalPart_none]
 refine wpAny_pure ?_
 have I4 : Inv X pins σ H3 { s3 with heap:=s3.heap.push { cls:=.type "slice",data:=.fields #[vl,vu,.none] } }:=I3.kept (t':=s3.toks) fun b ob q=>Heap.get?_push_of_some _ q
 obtain ⟨T,id,hT,ht,hg⟩:=hr pins { s3 with heap:=s3.heap.push { cls:=.type "slice",data:=.fields #[vl,vu,.none] } } σ H3 x v vl vu l u s3.heap.objs.size Q I4 r1 (Heap.IsSliceOf.new ..) pl pu q3
 show wpAny (model X.prog X.w) X.A (subscriptTail e (.Slice lo hi none p2) v (.ref s3.heap.objs.size)) (EP X pins σ Q) X.xe { s3 with heap:=s3.heap.push { cls:=.type "slice",data:=.fields #[vl,vu,.none] } }
 exact tail_any (ops:=[.ref s3.heap.objs.size,v]) ht hT hg (by with_unfolding_all rfl)
def cutV (xs : List V) (lo hi : Option Int) : List V:=(xs.drop (HT.sIx xs.length 0 lo)).take (HT.sIx xs.length xs.length hi - HT.sIx xs.length 0 lo)
theorem cutV_length (xs : List V) (lo hi : Option Int) : (cutV xs lo hi).length <= xs.length:=by
 unfold cutV
 rw [List.length_take,List.length_drop]
 omega
def rSlT (K : PySem.W.Frag) : V -> Option Int -> Option Int -> Hp -> VK -> Prop:=fun x lo hi H Q=>∃ a xs,x = .ref a /\ SqT K H a xs /\
 ¬ (HT.sIx xs.length 0 lo = 0 /\ HT.sIx xs.length xs.length hi = xs.length) /\ ∀ p,H p = none -> Q (.ref p) (upd H p (.tup (cutV xs lo hi)))
theorem sl_tup : SlR X (rSlT X.K):=by
 intro pins s σ H x v vl vu lo hi sl Q I rx hs pl pu h
 obtain ⟨a,xs,rfl,hx,hw,q⟩:=h
 cases rx
 obtain ⟨its,r,ht,hz⟩:=I.tuple hx
 have hlen : its.toArray.size = xs.length:=by rw [List.size_toArray]; exact r.length.symm
 refine ⟨"tuple",_,PyProof.Rows.slot_tuple_getitem.lookup,ht.typeIs,?_⟩
 refine HT.getItem_tuple_cut ht hs pl pu (by rw [hlen]; exact hw) ?_ (by rw [hlen]; exact hz)
 rw [hlen]
 refine ⟨.ref s.heap.objs.size,_,I.laid (t':=s.toks) (o:=.tup (cutV xs lo hi)) (fun b ob q=>Heap.get?_push_of_some _ q) (Nat.le_refl _) ?_,rfl,q _ (I.hok.fresh (Nat.le_refl _))⟩
 exact ⟨Nat.le_trans (cutV_length xs lo hi) hz,_,(r.drop (HT.sIx xs.length 0 lo)).take (HT.sIx xs.length xs.length hi - HT.sIx xs.length 0 lo),IsTup.new _ _⟩
def rCatT (K : PySem.W.Frag) : R2:=fun x y H Q=>∃ a b xs ys,x = .ref a /\ y = .ref b /\ SqT K H a xs /\ SqT K H b ys /\ xs ≠ [] /\ xs.length + ys.length <= sizeLine /\
 (ys = [] -> Q (.ref a) H) /\ (ys ≠ [] -> ∀ p,H p = none -> Q (.ref p) (upd H p (.tup (xs ++ ys))))
theorem Vals.nil_iff {xs : List V} {us : List Value} (r : Vals xs us) : us = [] ↔ xs = []:=by
 cases r with
 | nil=>simp
 | cons _ _=>simp
theorem op_catT : OpR X (binaryOp .Add) (rCatT X.K):=by
 intro pins s σ H x y v u Q I rx ry h
 obtain ⟨a,b,xs,ys,rfl,rfl,ha,hb,hx,hz,q1,q2⟩:=h
 cases rx
 cases ry
 obtain ⟨its,r1,p1,_⟩:=I.tuple ha
 obtain ⟨its2,r2,p2,_⟩:=I.tuple hb
 refine HT.cat_tup p1 p2 (fun z=>hx (r1.nil_iff.mp z)) (fun z=>⟨.ref a,H,I,rfl,q1 (r2.nil_iff.mp z)⟩) (fun z=>?_) (by rw [<- r1.length,<- r2.length]; exact hz)
 refine ⟨.ref s.heap.objs.size,_,I.laid (t':=s.toks) (o:=.tup (xs ++ ys)) (fun b ob q=>Heap.get?_push_of_some _ q) (Nat.le_refl _) ?_,rfl,q2 (fun w=>z (r2.nil_iff.mpr w)) _ (I.hok.fresh (Nat.le_refl _))⟩
 exact ⟨by rw [List.length_append]; exact hz,_,r1.append r2,IsTup.new _ _⟩
end
end L2
namespace L2
open PySem PySem.Spec PyProof.Rows
def ixN (n : Nat) (i : Int) : Option Nat:=if 0 <= i then (if i < n then some i.toNat else none) else if -(n : Int) <= i then some (i + n).toNat else none
def atI {α : Type} (xs : List α) (i : Int) : Option α:=(ixN xs.length i).bind fun j=>xs[j]?
theorem ixN_seq {n : Nat} {i : Int} {j : Nat} (h : ixN n i = some j) : seqIndex? i n = some j /\ j < n /\ -(n : Int) <= i /\ i < n:=by
 unfold ixN at h
 by_cases h0 : 0 <= i
 ·rw [if_pos h0] at h
  by_cases h1 : i < n
  ·rw [if_pos h1] at h
   have e : i.toNat = j:=Option.some.inj h
   exact ⟨by rw [seqIndex_of h0 h1,e],by omega,by omega,h1⟩
  ·rw [if_neg h1] at h; cases h
 ·rw [if_neg h0] at h
  by_cases h1 : -(n : Int) <= i
  ·rw [if_pos h1] at h
   have e : (i + n).toNat = j:=Option.some.inj h
   exact ⟨by rw [seqIndex_neg (by omega) h1,e],by omega,h1,by omega⟩
  ·rw [if_neg h1] at h; cases h
theorem atI_get {α : Type} {xs : List α} {i : Int} {v : α} (h : atI xs i = some v) : ∃ j,seqIndex? i xs.length = some j /\ xs[j]? = some v /\ j < xs.length /\ -(xs.length : Int) <= i /\ i < xs.length:=by
 unfold atI at h
 cases e : ixN xs.length i with
 | none=>rw [e] at h; cases h
 | some j =>
  rw [e] at h
  obtain ⟨h1,h2,h3,h4⟩:=ixN_seq e
  exact ⟨j,h1,h,h2,h3,h4⟩
theorem atI_nat {α : Type} {xs : List α} {j : Nat} {v : α} (h : xs[j]? = some v) : atI xs (j : Int) = some v:=by
 have hj : j < xs.length:=(List.getElem?_eq_some_iff.mp h).1
 have e : ixN xs.length (j : Int) = some j:=by
  unfold ixN
  rw [if_pos (by omega),if_pos (by omega)]; simp
 unfold atI; rw [e]; exact h
theorem atI_last {α : Type} (xs : List α) (v : α) : atI (xs ++ [v]) (-1) = some v:=by
 have hl : (xs ++ [v]).length = xs.length + 1:=by simp
 have e : ixN (xs ++ [v]).length (-1) = some xs.length:=by
  unfold ixN
  rw [hl,if_neg (by decide),if_pos (by omega)]
  congr 1
  omega
 unfold atI
 rw [e]
 show (xs ++ [v])[xs.length]? = some v
 simp
def PlainIx (b : Expr) : Prop:=∀ o i,subscripted b false o i = operate [o,i] (getItem o i)
def IxR (X : Cx) (r : R2) : Prop :=
 ∀ (value slice : Expr) (pins : List (Addr × Obj)) (s : Shared) (σ : St) (H : Hp) (x y : V) (v u : Value) (Q : VK),Inv X pins σ H s -> RelV x v -> RelV y u -> r x y H Q ->
  subscripted slice false v u = operate [v,u] (getItem v u) -> wpAny (model X.prog X.w) X.A (subscriptTail value slice v u) (EP X pins σ Q) X.xe s
def MtR (X : Cx) (id : String) (r : V -> List V -> Hp -> VK -> Prop) : Prop :=
 ∀ (pins : List (Addr × Obj)) (s : Shared) (σ : St) (H : Hp) (x : V) (xs : List V) (v : Value) (us : List Value) (Q : VK),Inv X pins σ H s -> RelV x v -> Vals xs us -> r x xs H Q ->
  wpAny (model X.prog X.w) X.A (call (.builtin id) (v :: us)) (EP X pins σ Q) X.xe s
section
variable {X : Cx} {a b : Expr} {ta tb : TE} {pos : Pos}
theorem IxR.or {r r' : R2} (h : IxR X r) (h' : IxR X r') : IxR X (fun x y H Q=>r x y H Q ∨ r' x y H Q):=by
 intro value slice pins s σ H x y v u Q I rx ry q hs
 rcases q with q | q
 ·exact h value slice pins s σ H x y v u Q I rx ry q hs
 ·exact h' value slice pins s σ H x y v u Q I rx ry q hs
theorem MtR.or {id : String} {r r' : V -> List V -> Hp -> VK -> Prop} (h : MtR X id r) (h' : MtR X id r') : MtR X id (fun x xs H Q=>r x xs H Q ∨ r' x xs H Q):=by
 intro pins s σ H x xs v us Q I rx rs q
 rcases q with q | q
 ·exact h pins s σ H x xs v us Q I rx rs q
 ·exact h' pins s σ H x xs v us Q I rx rs q
theorem pe_ix {r : R2} (hr : IxR X r) (ha : PE X a ta) (hb : PE X b tb) (hs : PlainIx b) : PE X (.Subscript a b pos) (tOp r ta tb):=by
 intro pins s σ H Q I h
 exact Subscript_ (binT ha hb I h fun v u s2 x y H2 I2 rx ry q=>hr a b pins s2 σ H2 x y v u Q I2 rx ry q (hs _ _))
def rIxL (K : PySem.W.Frag) : R2:=fun x y H Q=>∃ p xs i v,x = .ref p /\ y = .int i /\ SqL K H p xs /\ atI xs i = some v /\ Q v H
def rIxT (K : PySem.W.Frag) : R2:=fun x y H Q=>∃ p xs i v,x = .ref p /\ y = .int i /\ SqT K H p xs /\ atI xs i = some v /\ Q v H
def rIxS : R2:=fun x y H Q=>∃ z i c,x = .str z /\ y = .int i /\ z.length <= sizeLine /\ atI z.cps.toList i = some c /\ Q (.str ⟨#[c]⟩) H
theorem ix_list : IxR X (rIxL X.K):=by
 intro value slice pins s σ H x y v u Q I rx ry h hs
 obtain ⟨p,xs,i,z,rfl,rfl,hq,he,q⟩:=h
 cases rx
 obtain ⟨t,rfl⟩:=ry
 obtain ⟨its,r,pl,hz⟩:=I.list hq
 obtain ⟨j,h1,h2,h3,h4,h5⟩:=atI_get he
 obtain ⟨w,ew,rw'⟩:=r.get h2
 have hl:=r.length
 have hn:=line63
 have fin : EP X pins σ Q w s:=⟨z,H,I,rw',q⟩
 by_cases h0 : 0 <= i
 ·have hj : i.toNat = j:=by
   rw [seqIndex_of h0 h5] at h1
   exact Option.some.inj h1
  exact item_listR pl.isList h0 (by omega) (by rw [hj]; simpa using ew) fin hs
 ·have hj : (i + (its.toArray.size : Int)).toNat = j:=by
   rw [seqIndex_neg (by omega) h4] at h1
   rw [List.size_toArray,<- hl]
   exact Option.some.inj h1
  exact subscriptTail_builtinR (x:=w) pl.isList.typeIs slot_list_getitem.lookup
   (wpAny_getItem_list_neg (Q:=fun r s'=>r = w /\ EP X pins σ Q r s') pl.isList (by omega) (by rw [List.size_toArray] <;> omega) (by omega) (by rw [hj]; simpa using ew) ⟨rfl,fin⟩) hs
theorem ix_tup : IxR X (rIxT X.K):=by
 intro value slice pins s σ H x y v u Q I rx ry h hs
 obtain ⟨p,xs,i,z,rfl,rfl,hq,he,q⟩:=h
 cases rx
 obtain ⟨t,rfl⟩:=ry
 obtain ⟨its,r,pl,hz⟩:=I.tuple hq
 obtain ⟨j,h1,h2,h3,h4,h5⟩:=atI_get he
 obtain ⟨w,ew,rw'⟩:=r.get h2
 have hl:=r.length
 have hn:=line63
 have fin : EP X pins σ Q w s:=⟨z,H,I,rw',q⟩
 exact subscriptTail_builtinR (x:=w) pl.typeIs slot_tuple_getitem.lookup
  (getItem_tuple (j:=j) (Q:=fun r s'=>r = w /\ EP X pins σ Q r s') pl (by omega) (by omega) (by rw [List.size_toArray,<- hl]; exact h1) (by simpa using ew) ⟨rfl,fin⟩) hs
theorem ix_str : IxR X rIxS:=by
 intro value slice pins s σ H x y v u Q I rx ry h hs
 obtain ⟨z,i,c,rfl,rfl,hz,he,q⟩:=h
 obtain ⟨t,rfl⟩:=rx
 obtain ⟨t',rfl⟩:=ry
 obtain ⟨j,h1,h2,h3,h4,h5⟩:=atI_get he
 have hl : z.cps.toList.length = z.length:=by simp [Str.length]
 rw [hl] at h1 h4 h5
 have hn:=line63
 exact tail_any (typeIs_str s z t) slot_str_getitem.lookup (getItem_str (c:=c) (by
  have e1 : decide (i < -(2 ^ 63 : Int)) = false:=decide_eq_false (by omega)
  have e2 : decide (i ≥ 2 ^ 63) = false:=decide_eq_false (by omega)
  rw [e1,e2,Bool.or_false]) (by rw [h1]; simpa using h2) ⟨.str ⟨#[c]⟩,H,I.tok _,⟨_,rfl⟩,q⟩) hs
theorem mapSeq_set (its : List Value) (n j : Nat) (u : Value) : Obj.mapSeq (·.setIfInBounds j u) { cls:=.type "list",data:=.seq its.toArray n } = { cls:=.type "list",data:=.seq (its.set j u).toArray n }:=by
 simp [Obj.mapSeq]
theorem Inv.lst {pins : List (Addr × Obj)} {σ : St} {H : Hp} {s : Shared} {p : Addr} {xs : List V} (I : Inv X pins σ H s) (h : H p = some (.lst xs)) :
  ∃ (its : List Value) (n : Nat),Vals xs its /\ s.heap.get? p = some { cls:=.type "list",data:=.seq its.toArray n } /\ xs.length <= sizeLine:=by
 obtain ⟨z,its,n,r,e⟩:=I.hok p _ h
 exact ⟨its,n,r,e,z⟩
theorem Inv.lstUpd {pins : List (Addr × Obj)} {σ : St} {H : Hp} {s : Shared} {p : Addr} {xs ys : List V} {its its' : List Value} {n n' : Nat} {f : Obj -> Obj} (I : Inv X pins σ H s) (h : H p = some (.lst xs))
  (ho : s.heap.get? p = some { cls:=.type "list",data:=.seq its.toArray n }) (hf : f { cls:=.type "list",data:=.seq its.toArray n } = { cls:=.type "list",data:=.seq its'.toArray n' }) (r : Vals ys its') (hz : ys.length <= sizeLine) (t : Nat) :
  Inv X pins σ (upd H p (.lst ys)) { s with heap:=s.heap.update p f,toks:=t }:=by
 have e : (s.heap.update p f).get? p = some { cls:=.type "list",data:=.seq its'.toArray n' }:=by
  rw [Heap.get?_update_self f ho (by rw [hf] <;> rfl),hf]
 refine I.write (x:=p) (e:=p) (by rw [h]; trivial) (.inl rfl) (fun b u hb q=>(Heap.get?_update_other _ _ (Ne.symm hb)).trans q) ⟨_,e⟩ ?_
 exact ⟨hz,its',n',r,e⟩
def rSetL : V -> V -> V -> Hp -> (Hp -> Prop) -> Prop:=fun o i v H Q=>∃ p xs k j,o = .ref p /\ i = .int k /\ H p = some (.lst xs) /\ ixN xs.length k = some j /\ Q (upd H p (.lst (xs.set j v)))
theorem set_list : PSet X rSetL:=by
 intro pins s σ H o i v ov iv u Q I ro ri rv h
 obtain ⟨p,xs,k,j,rfl,rfl,hp,hj,q⟩:=h
 cases ro
 obtain ⟨t,rfl⟩:=ri
 obtain ⟨its,n,r,ho,hz⟩:=I.lst hp
 obtain ⟨h1,h2,h3,h4⟩:=ixN_seq hj
 have hl:=r.length
 have hn:=line63
 have I' : Inv X pins σ (upd H p (.lst (xs.set j v))) { s with heap:=s.heap.update p (Obj.mapSeq (·.setIfInBounds j u)) } :=
  I.lstUpd hp ho (mapSeq_set its n j u) (r.set rv j) (by rw [List.length_set]; exact hz) s.toks
 by_cases h0 : 0 <= k
 ·have hk : k.toNat = j:=by
   rw [seqIndex_of h0 h4] at h1
   exact Option.some.inj h1
  exact PySem.W.ki_setAt ho h0 (by omega) (by rw [List.size_toArray,<- hl]; exact h4) (by rw [hk]; exact ⟨_,I',q⟩)
 ·have hk : (k + (its.toArray.size : Int)).toNat = j:=by
   rw [seqIndex_neg (by omega) h3] at h1
   rw [List.size_toArray,<- hl]
   exact Option.some.inj h1
  exact PySem.W.ki_setBack ho (by omega) (by rw [List.size_toArray,<- hl]; exact h3) (by omega) (by rw [hk]; exact ⟨_,I',q⟩)
theorem slice_bounds (lo hi : Option Int) (n : Nat) : (sliceBounds lo hi none n).1 = ((HT.sIx n 0 lo : Nat) : Int) /\ (sliceBounds lo hi none n).2.1 = ((HT.sIx n n hi : Nat) : Int) /\ (sliceBounds lo hi none n).2.2 = 1:=by
 refine ⟨?_,?_,rfl⟩
 ·cases lo with
  | none=>simp [sliceBounds,HT.sIx]
  | some i =>
   simp only [sliceBounds,HT.sIx,Option.getD_none,show (1 : Int) > 0 by decide,if_true]
   by_cases h : i < 0
   ·simp only [h,if_true] <;> omega
   ·simp only [h,if_false] <;> omega
 ·cases hi with
  | none=>simp [sliceBounds,HT.sIx]
  | some i =>
   simp only [sliceBounds,HT.sIx,Option.getD_none,show (1 : Int) > 0 by decide,if_true]
   by_cases h : i < 0
   ·simp only [h,if_true] <;> omega
   ·simp only [h,if_false] <;> omega
theorem slicePick_cut (its : List Value) (lo hi : Option Int) : slicePick its.toArray lo hi none = ((its.drop (HT.sIx its.length 0 lo)).take (HT.sIx its.length its.length hi - HT.sIx its.length 0 lo)).toArray:=by
 obtain ⟨h1,h2,h3⟩:=slice_bounds lo hi its.toArray.size
 unfold slicePick
 rw [h1,h2,h3]
 simp only [sliceRange_one,pick_run,List.size_toArray] <;> rfl
def rSlL (K : PySem.W.Frag) : V -> Option Int -> Option Int -> Hp -> VK -> Prop:=fun x lo hi H Q=>∃ a xs,x = .ref a /\ SqL K H a xs /\ ∀ p,H p = none -> Q (.ref p) (upd H p (.lst (cutV xs lo hi)))
theorem sl_list : SlR X (rSlL X.K):=by
 intro pins s σ H x v vl vu lo hi sl Q I rx hs pl pu h
 obtain ⟨a,xs,rfl,hx,q⟩:=h
 cases rx
 obtain ⟨its,r,ht,hz⟩:=I.list hx
 have hlen:=r.length
 refine ⟨"list",_,slot_list_getitem.lookup,ht.isList.typeIs,?_⟩
 refine wpAny_getItem_list_slice ht.isList hs pl pu .none (by simp) ?_ (by rw [List.size_toArray] <;> omega)
 rw [slicePick_cut,<- hlen]
 refine ⟨.ref s.heap.objs.size,_,I.laid (t':=s.toks) (o:=.lst (cutV xs lo hi)) (fun b ob q=>Heap.get?_push_of_some _ q) (Nat.le_refl _) ?_,rfl,q _ (I.hok.fresh (Nat.le_refl _))⟩
 exact ⟨Nat.le_trans (cutV_length xs lo hi) hz,_,0,(r.drop (HT.sIx xs.length 0 lo)).take (HT.sIx xs.length xs.length hi - HT.sIx xs.length 0 lo),Heap.get?_push_size _ rfl⟩
def flatV : V -> Bool
 | .non=>true
 | .bl _=>true
 | .int _=>true
 | .str _=>true
 | _=>false
def eqV : V -> V -> Bool
 | .non,.non=>true
 | .bl a,.bl b=>a == b
 | .bl a,.int b=>(if a then 1 else 0) == b
 | .int a,.bl b=>a == (if b then 1 else 0)
 | .int a,.int b=>a == b
 | .str a,.str b=>a == b
 | _,_=>false
theorem eqAt_V {A : Around} {s : Shared} {y x : V} {u v : Value} (ry : RelV y u) (rx : RelV x v) (fy : flatV y = true) (fx : flatV x = true) : SeqAt.EqAt A s u v (eqV y x):=by
 cases y with
 | non =>
  cases ry
  cases x with
  | non=>cases rx; exact SeqAt.EqAt.same _
  | bl b=>cases rx; exact SeqAt.EqAt.none_bool b
  | int b=>obtain ⟨t,rfl⟩:=rx; exact SeqAt.EqAt.none_int b t
  | str b=>obtain ⟨t,rfl⟩:=rx; exact SeqAt.EqAt.none_str b t
  | _=>exact absurd (show false = true from fx) Bool.false_ne_true
 | bl a =>
  cases ry
  cases x with
  | non=>cases rx; exact SeqAt.EqAt.bool_none a
  | bl b=>cases rx; exact SeqAt.EqAt.bool_bool a b
  | int b=>obtain ⟨t,rfl⟩:=rx; exact SeqAt.EqAt.bool_int a b t
  | str b=>obtain ⟨t,rfl⟩:=rx; exact SeqAt.EqAt.bool_str a b t
  | _=>exact absurd (show false = true from fx) Bool.false_ne_true
 | int a =>
  obtain ⟨t',rfl⟩:=ry
  cases x with
  | non=>cases rx; exact SeqAt.EqAt.int_none a t'
  | bl b=>cases rx; exact SeqAt.EqAt.int_bool a t' b
  | int b=>obtain ⟨t,rfl⟩:=rx; exact SeqAt.EqAt.int_int a t' b t
  | str b=>obtain ⟨t,rfl⟩:=rx; exact SeqAt.EqAt.int_str a t' b t
  | _=>exact absurd (show false = true from fx) Bool.false_ne_true
 | str a =>
  obtain ⟨t',rfl⟩:=ry
  cases x with
  | non=>cases rx; exact SeqAt.EqAt.str_none a t'
  | bl b=>cases rx; exact SeqAt.EqAt.str_bool a t' b
  | int b=>obtain ⟨t,rfl⟩:=rx; exact SeqAt.EqAt.str_int a t' b t
  | str b=>obtain ⟨t,rfl⟩:=rx; exact SeqAt.EqAt.str_str a t' b t
  | _=>exact absurd (show false = true from fx) Bool.false_ne_true
 | _=>exact absurd (show false = true from fy) Bool.false_ne_true
def eqU (x : V) (u : Value) : Bool:=match u with
 | .none=>eqV .non x
 | .bool b=>eqV (.bl b) x
 | .int i _=>eqV (.int i) x
 | .str z _=>eqV (.str z) x
 | _=>false
theorem eqU_of {x y : V} {u : Value} (r : RelV y u) (f : flatV y = true) : eqU x u = eqV y x:=by
 cases y with
 | non=>cases r; rfl
 | bl b=>cases r; rfl
 | int i=>obtain ⟨t,rfl⟩:=r; rfl
 | str z=>obtain ⟨t,rfl⟩:=r; rfl
 | _=>exact absurd (show false = true from f) Bool.false_ne_true
theorem any_eqU {x : V} : ∀ {xs : List V} {us : List Value},Vals xs us -> xs.all flatV = true -> us.any (eqU x) = xs.any fun y=>eqV y x
 | _,_,.nil,_=>rfl
 | y :: xs,u :: us,.cons r t,f=>by
  rw [List.all_cons,Bool.and_eq_true] at f
  rw [List.any_cons,List.any_cons,eqU_of r f.1,any_eqU t f.2]
theorem mem_eqAt {A : Around} {s : Shared} {x : V} {v : Value} (rx : RelV x v) (fx : flatV x = true) : ∀ {xs : List V} {us : List Value},Vals xs us -> xs.all flatV = true -> ∀ u ∈ us,SeqAt.EqAt A s u v (eqU x u)
 | _,_,.nil,_=>fun u hu=>by cases hu
 | y :: xs,u :: us,.cons r t,f=>fun u' hu=>by
  rw [List.all_cons,Bool.and_eq_true] at f
  rcases List.mem_cons.mp hu with rfl | hu
  ·rw [eqU_of r f.1]; exact eqAt_V r rx f.1 fx
  ·exact mem_eqAt rx fx t f.2 u' hu
def inV (x : V) (xs : List V) : Bool:=xs.any fun y=>eqV y x
def rIn (K : PySem.W.Frag) (neg : Bool) : R2:=fun x y H Q=>∃ p xs,y = .ref p /\ (SqL K H p xs ∨ SqT K H p xs) /\ flatV x = true /\ xs.all flatV = true /\ Q (.bl (if neg then !inV x xs else inV x xs)) H
theorem op_notIn_seq : OpR X (compareOp .NotIn) (rIn X.K true):=by
 intro pins s σ H x y v u Q I rx ry h
 obtain ⟨p,xs,rfl,hq,fx,fs,q⟩:=h
 cases ry
 rcases hq with hq | hq
 ·obtain ⟨its,r,pl,hz⟩:=I.list hq
  refine SeqAt.notIn_listAt (eqU x) pl.isList (fun w hw=>mem_eqAt rx fx r fs w (by simpa using hw)) ⟨.bl _,H,I,rfl,?_⟩
  rw [show its.toArray.any (eqU x) = its.any (eqU x) by simp,any_eqU r fs]
  exact q
 ·obtain ⟨its,r,pl,hz⟩:=I.tuple hq
  refine SeqAt.notIn_tupleAt (eqU x) pl (fun w hw=>mem_eqAt rx fx r fs w (by simpa using hw)) ⟨.bl _,H,I,rfl,?_⟩
  rw [show its.toArray.any (eqU x) = its.any (eqU x) by simp,any_eqU r fs]
  exact q
theorem call_len_seq : CallR X (.builtin "len") (fun xs H Q=>∃ p ys,xs = [.ref p] /\ (SqL X.K H p ys ∨ SqT X.K H p ys) /\ Q (.int ys.length) H):=by
 intro pins s σ H xs us Q I r h
 obtain ⟨p,ys,rfl,hq,q⟩:=h
 obtain ⟨u,rfl,rx⟩:=vals1 r
 cases rx
 have hn:=line63
 rcases hq with hq | hq
 ·obtain ⟨its,r',pl,hz⟩:=I.list hq
  have hlen:=r'.length
  exact Calls.call_len_list pl.isList (by simp only [List.size_toArray] <;> omega) ⟨.int ys.length,H,I.tok _,⟨s.toks + 1,by rw [List.size_toArray,hlen]⟩,q⟩
 ·obtain ⟨its,r',pl,hz⟩:=I.tuple hq
  have hlen:=r'.length
  exact len_tuple pl (by simp only [List.size_toArray] <;> omega) ⟨.int ys.length,H,I.tok _,⟨s.toks + 1,by rw [List.size_toArray,hlen]⟩,q⟩
theorem call_len_str : CallR X (.builtin "len") (fun xs H Q=>∃ z,xs = [.str z] /\ z.length <= sizeLine /\ Q (.int z.length) H):=by
 intro pins s σ H xs us Q I r h
 obtain ⟨z,rfl,hz,q⟩:=h
 obtain ⟨u,rfl,t,rfl⟩:=vals1 r
 have hn:=line63
 exact len_str (by omega) ⟨.int z.length,H,I.tok _,⟨_,rfl⟩,q⟩
theorem CallR.or {f : Value} {r r' : List V -> Hp -> VK -> Prop} (h : CallR X f r) (h' : CallR X f r') : CallR X f (fun xs H Q=>r xs H Q ∨ r' xs H Q):=by
 intro pins s σ H xs us Q I rs q
 rcases q with q | q
 ·exact h pins s σ H xs us Q I rs q
 ·exact h' pins s σ H xs us Q I rs q
theorem call_list_of : CallR X (.type "list") (fun xs H Q=>∃ p ys,xs = [.ref p] /\ (SqL X.K H p ys ∨ SqT X.K H p ys) /\ ∀ l,H l = none -> Q (.ref l) (upd H l (.lst ys))):=by
 intro pins s σ H xs us Q I r h
 obtain ⟨p,ys,rfl,hq,q⟩:=h
 obtain ⟨u,rfl,rx⟩:=vals1 r
 cases rx
 have fin : ∀ (its : List Value),Vals ys its -> ys.length <= sizeLine -> ∀ (h' : Heap) (c' : Nat),(∀ b o',s.heap.get? b = some o' -> h'.get? b = some o') ->
   h'.get? s.heap.objs.size = some { cls:=.type "list",dict:=none,data:=.seq its.toArray c',slots:=#[] } -> EP X pins σ Q (.ref s.heap.objs.size) { s with heap:=h' }:=fun its r' hz h' c' kp e =>
  ⟨.ref s.heap.objs.size,_,I.laid (t':=s.toks) kp (Nat.le_refl _) (show ObjOk X.prog X.w _ h' _ (.lst ys) from ⟨hz,its,c',r',e⟩),rfl,q _ (I.hok.fresh (Nat.le_refl _))⟩
 rcases hq with hq | hq
 ·obtain ⟨its,r',pl,hz⟩:=I.list hq
  have hlen:=r'.length
  obtain ⟨o,ho,hc,n,hd⟩:=pl.isList
  exact call_list_seq p (.inl rfl) ho hc hd (fun h' c' kp e=>fin its r' hz h' c' kp e) (by simp only [List.size_toArray] <;> omega)
 ·obtain ⟨its,r',pl,hz⟩:=I.tuple hq
  have hlen:=r'.length
  obtain ⟨o,ho,hc,n,hd⟩:=pl
  exact call_list_seq p (.inr rfl) ho hc hd (fun h' c' kp e=>fin its r' hz h' c' kp e) (by simp only [List.size_toArray] <;> omega)
theorem call_tuple_of : CallR X (.type "tuple") (fun xs H Q=>∃ p ys,xs = [.ref p] /\ ((SqL X.K H p ys /\ ∀ l,H l = none -> Q (.ref l) (upd H l (.tup ys))) ∨ (SqT X.K H p ys /\ Q (.ref p) H))):=by
 intro pins s σ H xs us Q I r h
 obtain ⟨p,ys,rfl,h⟩:=h
 obtain ⟨u,rfl,rx⟩:=vals1 r
 cases rx
 rcases h with ⟨hq,q⟩ | ⟨hq,q⟩
 ·obtain ⟨its,r',pl,hz⟩:=I.list hq
  have hlen:=r'.length
  refine call_tuple_list pl.isList (fun h' kp=>?_) (by simp only [List.size_toArray] <;> omega)
  have I1 : Inv X pins σ H { s with heap:=h' }:=I.kept (t':=s.toks) kp
  have I2 : Inv X pins σ (upd H h'.objs.size (.tup ys)) { s with heap:=h'.push { cls:=.type "tuple",data:=.seq its.toArray } } :=
   I1.laid (t':=s.toks) (fun b o e=>Heap.get?_push_of_some _ e) (Nat.le_refl _) (show ObjOk X.prog X.w _ _ _ (.tup ys) from ⟨hz,its,r',IsTup.new _ _⟩)
  exact ⟨.ref h'.objs.size,_,I2,rfl,q _ (I1.hok.fresh (Nat.le_refl _))⟩
 ·obtain ⟨its,r',pl,hz⟩:=I.tuple hq
  exact call_tuple_same pl ⟨.ref p,H,I,rfl,q⟩
def tyV (K : PySem.W.Frag) (T : String) (x : V) (H : Hp) : Prop:=match x with
 | .str _=>T = "str"
 | .int _=>T = "int"
 | .ref p=>(T = "list" /\ ∃ xs,SqL K H p xs) ∨ (T = "tuple" /\ ∃ o,K.lookup p = some o /\ o.cls = .type "tuple" /\ o.dict = none) ∨
   (T = "dict" /\ ((∃ kvs,H p = some (.dK kvs)) ∨ ∃ kvs,H p = some (.dT kvs))) ∨ (T = "set" /\ ∃ S n,H p = some (.set S n))
 | _=>False
theorem tyV_is {pins : List (Addr × Obj)} {σ : St} {H : Hp} {s : Shared} {T : String} {x : V} {v : Value} (I : Inv X pins σ H s) (r : RelV x v) (ty : tyV X.K T x H) :
  s.TypeIs v T /\ ∀ a,v = .ref a -> ∃ ob,s.heap.get? a = some ob /\ ob.dict = none:=by
 cases x with
 | str z =>
  obtain ⟨t,rfl⟩:=r
  cases (show T = "str" from ty)
  exact ⟨typeIs_str s z t,fun _ e=>nomatch e⟩
 | int i =>
  obtain ⟨t,rfl⟩:=r
  cases (show T = "int" from ty)
  exact ⟨typeIs_int s i t,fun _ e=>nomatch e⟩
 | ref p =>
  cases r
  rcases ty with ⟨rfl,xs,hq⟩ | ⟨rfl,o,hk,hc,hd⟩ | ⟨rfl,hk⟩ | ⟨rfl,S,n,hk⟩
  ·obtain ⟨its,_,pl,_⟩:=I.list hq
   refine ⟨pl.isList.typeIs,fun a e=>?_⟩
   cases e
   obtain ⟨o,n,e,c,hd,_⟩:=pl
   exact ⟨o,e,hd⟩
  ·refine ⟨⟨o,I.kIn p o hk,hc⟩,fun a e=>?_⟩
   cases e
   exact ⟨o,I.kIn _ o hk,hd⟩
  ·have z : ∃ o,s.heap.get? p = some o /\ o.ExactDict:=by
    rcases hk with ⟨kvs,hk⟩ | ⟨kvs,hk⟩
    ·obtain ⟨_,_,_,_,o,_,_,e,ex,_⟩:=I.hok p _ hk
     exact ⟨o,e,ex⟩
    ·obtain ⟨_,_,_,_,o,_,_,e,ex,_⟩:=I.hok p _ hk
     exact ⟨o,e,ex⟩
   obtain ⟨o,e,ex⟩:=z
   refine ⟨⟨o,e,ex.1⟩,fun a e2=>?_⟩
   cases e2
   exact ⟨o,e,ex.2.1⟩
  ·obtain ⟨o,_,_,_,e,ex,_⟩:=I.hok p _ hk
   refine ⟨⟨o,e,ex.1⟩,fun a e2=>?_⟩
   cases e2
   exact ⟨o,e,ex.2.1⟩
 | _=>exact False.elim ty
def tBM0 (K : PySem.W.Frag) (T : String) (r : V -> List V -> Hp -> VK -> Prop) (to : TE) : TE:=fun σ H Q=>to σ H fun x H1=>tyV K T x H1 /\ r x [] H1 Q
def tBM (K : PySem.W.Frag) (T : String) (r : V -> List V -> Hp -> VK -> Prop) (to : TE) (t : TA) : TE:=fun σ H Q=>to σ H fun x H1=>tyV K T x H1 /\ t σ H1 fun xs H2=>r x xs H2 Q
variable {o e : Expr} {es : List Expr} {to : TE} {t : TA} {name : Str} {apos cpos : Pos} {T id : String} {r : V -> List V -> Hp -> VK -> Prop}
theorem pe_bm0 (pa : PlainAttrs T) (slot : Slot T name id) (hty : typeOf (.builtin id) = pure (.type "method_descriptor")) (hm : MtR X id r) (ho : PE X o to)
  (hbase : attributeBase o name X.env (eval o X.env) = eval o X.env:=by rfl) (hline : (apos.endLine == cpos.line) = true:=by rfl) : PE X (.Call (.Attribute o name apos) [] [] cpos) (tBM0 X.K T r to):=by
 intro pins s σ H Q I h
 refine wpAny_Call_method0_late hbase hline (thn (ho pins s σ H _ I h) fun v s1 ⟨x,H1,I1,r1,ty,q1⟩=>?_)
 obtain ⟨h1,h2⟩:=tyV_is I1 r1 ty
 exact ⟨T,id,pa,slot,hty,h1,h2,Calls.callWith_builtin rfl (PySem.evalArgs_none (hm pins s1 σ H1 x [] v [] Q I1 r1 .nil q1))⟩
theorem pe_bm (pa : PlainAttrs T) (slot : Slot T name id) (hty : typeOf (.builtin id) = pure (.type "method_descriptor")) (hm : MtR X id r) (ho : PE X o to) (ha : PA X (e :: es) t)
  (hbase : attributeBase o name X.env (eval o X.env) = eval o X.env:=by rfl)
  (hfew : ((backTo cpos (starEach (e :: es) X.env)).all (fun x=>!x.1) && (backToKw cpos (keywordEach [] X.env)).all (fun x=>x.1.isSome)
   && decide ((e :: es).length + ([] : List Keyword).length + (if ([] : List Keyword).isEmpty then 0 else 1) < 30)) = true:=by rfl)
  (hline : (apos.endLine == cpos.line) = true:=by rfl) (hs : starEach (e :: es) X.env = (false,eval e X.env) :: starEach es X.env:=by rfl) (hplain : (backTo cpos (starEach es X.env)).any (·.1) = false:=by rfl) :
  PE X (.Call (.Attribute o name apos) (e :: es) [] cpos) (tBM X.K T r to t):=by
 intro pins s σ H Q I h
 refine wpAny_Call_method_late hbase hfew hline rfl (thn (ho pins s σ H _ I h) fun v s1 ⟨x,H1,I1,r1,ty,q1⟩=>?_)
 obtain ⟨h1,h2⟩:=tyV_is I1 r1 ty
 refine ⟨T,id,pa,slot,hty,h1,h2,?_⟩
 have hA:=ha cpos pins s1 σ H1 _ I1 q1
 rw [hs] at hA ⊢
 refine Calls.callWith_builtin (by show (false || (backTo cpos (starEach es X.env)).any (·.1)) = false; rw [hplain] <;> rfl) (Calls.evalArgs_plain ?_)
 exact thn hA fun us s2 ⟨vs,H2,I2,r2,q2⟩=>hm pins s2 σ H2 x vs v us Q I2 r1 r2 q2
/- xs.append(e),list.index on a module's tuple .. are MtR facts of 06m -/
end
end L2
namespace L2
open PySem PySem.Spec PyProof.Rows
def MtM (X : Cx) (id : String) (r : V -> List V -> Hp -> VK -> Prop) : Prop :=
 ∀ (pins : List (Addr × Obj)) (s : Shared) (σ : St) (H : Hp) (x : V) (xs : List V) (v : Value) (us : List Value) (Q : VK),Inv X pins σ H s -> RelV x v -> Vals xs us -> r x xs H Q ->
  wpAny (model X.prog X.w) X.A (call (.builtin id) (v :: us)) (EP X pins σ Q) X.xe s
theorem Vals.one : ∀ {x : V} {us : List Value},Vals [x] us -> ∃ u,us = [u] /\ RelV x u
 | _,_,.cons r .nil=>⟨_,rfl,r⟩
theorem Vals.zero : ∀ {us : List Value},Vals [] us -> us = []
 | _,.nil=>rfl
theorem Vals.dropLast {xs : List V} {us : List Value} (h : Vals xs us) : Vals xs.dropLast us.dropLast:=by
 induction h with
 | nil=>exact .nil
 | cons r t ih =>
  cases t with
  | nil=>exact .nil
  | cons q t'=>exact .cons r ih
theorem Vals.eraseIdx : ∀ {xs : List V} {us : List Value} (i : Nat),Vals xs us -> Vals (xs.eraseIdx i) (us.eraseIdx i)
 | _,_,_,.nil=>.nil
 | _,_,0,.cons _ t=>t
 | _,_,i + 1,.cons r t=>.cons r (Vals.eraseIdx i t)
theorem Vals.reverse {xs : List V} {us : List Value} (h : Vals xs us) : Vals xs.reverse us.reverse:=by
 induction h with
 | nil=>exact .nil
 | cons r t ih=>rw [List.reverse_cons,List.reverse_cons]; exact Vals.append ih (.cons r .nil)
theorem Vals.rep {xs : List V} {us : List Value} (h : Vals xs us) : ∀ k : Nat,Vals (List.replicate k xs).flatten (List.replicate k us).flatten
 | 0=>.nil
 | k + 1=>by
  rw [List.replicate_succ,List.replicate_succ,List.flatten_cons,List.flatten_cons]
  exact Vals.append h (Vals.rep h k)
theorem erase_last {α : Type} (l : List α) : l.eraseIdx (l.length - 1) = l.dropLast:=by
 induction l with
 | nil=>rfl
 | cons a r ih =>
  cases r with
  | nil=>rfl
  | cons b r =>
   have e : (a :: b :: r).length - 1 = ((b :: r).length - 1) + 1:=by
    have h1 : (a :: b :: r).length = r.length + 2:=rfl
    have h2 : (b :: r).length = r.length + 1:=rfl
    omega
   rw [e,List.eraseIdx_cons_succ,ih]
   all_goals rfl
theorem len_erase {α : Type} : ∀ (l : List α) (i : Nat),(l.eraseIdx i).length <= l.length
 | [],_=>Nat.le_refl _
 | _ :: _,0=>Nat.le_succ _
 | _ :: r,i + 1=>Nat.succ_le_succ (len_erase r i)
theorem foldl_rep (its : List Value) : ∀ (k : Nat) (acc : List Value),
  List.foldl (fun x1 x2=>x1 ++ x2) acc.toArray (List.replicate k its.toArray) = (acc ++ (List.replicate k its).flatten).toArray
 | 0,acc=>by simp
 | k + 1,acc=>by
  have e : acc.toArray ++ its.toArray = (acc ++ its).toArray:=by simp
  have e2 : (acc ++ its) ++ (List.replicate k its).flatten = acc ++ (List.replicate (k + 1) its).flatten:=by
   rw [List.replicate_succ,List.flatten_cons,List.append_assoc]
  rw [<- e2,<- foldl_rep its k (acc ++ its),<- e,List.replicate_succ,List.foldl_cons]
section
variable {X : Cx} {pins : List (Addr × Obj)} {σ : St} {H : Hp} {s : Shared} {l b : Addr} {xs ys zs : List V}
theorem Inv.lset {its its' : List Value} {n : Nat} {f : Array Value -> Array Value} {t' : Nat} (I : Inv X pins σ H s) (hH : H l = some (.lst xs))
  (e : s.heap.get? l = some { cls:=.type "list",data:=.seq its.toArray n }) (hf : f its.toArray = its'.toArray) (hv : Vals ys its') (hz : ys.length <= sizeLine) :
  Inv X pins σ (upd H l (.lst ys)) { s with heap:=s.heap.update l (Obj.mapSeq f),toks:=t' }:=by
 have q:=PySem.IsL.update e f
 rw [hf] at q
 refine I.write (x:=l) (e:=l) (by rw [hH]; exact trivial) (.inl rfl) (fun b' u hb hu=>(Heap.get?_update_other s.heap (Obj.mapSeq f) (Ne.symm hb)).trans hu) ⟨_,q⟩ ?_
 exact ⟨hz,its',_,hv,q⟩
theorem Inv.lnew {its : List Value} {t' : Nat} (I : Inv X pins σ H s) (hv : Vals ys its) (hz : ys.length <= sizeLine) :
  Inv X pins σ (upd H s.heap.objs.size (.lst ys)) { s with heap:=s.heap.push { cls:=.type "list",data:=.seq its.toArray },toks:=t' } :=
 I.laid (fun _ _ q=>Heap.get?_push_of_some _ q) (Nat.le_refl _) ⟨hz,its,0,hv,Heap.get?_push_size _ rfl⟩
theorem Inv.fresh (I : Inv X pins σ H s) : H s.heap.objs.size = none:=I.hok.fresh (Nat.le_refl _)
theorem Inv.lstM (I : Inv X pins σ H s) (hH : H l = some (.lst xs)) : xs.length <= sizeLine /\ ∃ (its : List Value) (n : Nat),Vals xs its /\ xs.length = its.length /\ s.heap.get? l = some { cls:=.type "list",data:=.seq its.toArray n }:=by
 obtain ⟨z,its,n,r,e⟩:=I.hok l _ hH
 exact ⟨z,its,n,r,r.length,e⟩
theorem notLongL {n : Nat} (h : n <= sizeLine) : Builtin.List.listTooLong n = false:=by
 unfold Builtin.List.listTooLong
 exact decide_eq_false (by omega)
end
section
variable {X : Cx}
def rAppend : V -> List V -> Hp -> VK -> Prop:=fun x vs H Q=>∃ l xs y,x = .ref l /\ vs = [y] /\ H l = some (.lst xs) /\ xs.length < sizeLine /\ Q .non (upd H l (.lst (xs ++ [y])))
theorem mt_append : MtM X "list.append" rAppend:=by
 intro pins s σ H x vs v us Q I rx rv h
 obtain ⟨l,xs,y,rfl,rfl,hH,hz,q⟩:=h
 cases rx
 obtain ⟨u,rfl,ru⟩:=rv.one
 obtain ⟨z,its,n,r,hl,e⟩:=I.lstM hH
 refine call_meets F.slot_list_append ⟨_,e,rfl⟩ F.entry_list_append (F.args_list_append_2 _ _) (PySem.list_append l its.toArray n u (by rw [List.size_toArray]; omega)) ⟨e,?_⟩
 refine ⟨.non,_,I.lset (its':=its ++ [u]) hH e (by simp) (r.append (.cons ru .nil)) ?_,rfl,q⟩
 rw [List.length_append,List.length_singleton]
 omega
def rExtend : V -> List V -> Hp -> VK -> Prop:=fun x vs H Q=>∃ l b xs zs,x = .ref l /\ vs = [.ref b] /\ H l = some (.lst xs) /\ H b = some (.lst zs) /\ xs.length + zs.length <= sizeLine /\ Q .non (upd H l (.lst (xs ++ zs)))
theorem mt_extend : MtM X "list.extend" rExtend:=by
 intro pins s σ H x vs v us Q I rx rv h
 obtain ⟨l,b,xs,zs,rfl,rfl,hH,hB,hz,q⟩:=h
 cases rx
 obtain ⟨u,rfl,ru⟩:=rv.one
 cases ru
 obtain ⟨z,its,n,r,hl,e⟩:=I.lstM hH
 obtain ⟨z2,its2,n2,r2,hl2,e2⟩:=I.lstM hB
 have hsz : its.toArray.size + its2.toArray.size <= sizeLine:=by rw [List.size_toArray,List.size_toArray]; omega
 have hlong : ¬ (!its.toArray.isEmpty && Builtin.List.listTooLong (its.toArray.size + its2.toArray.size)) = true:=by
  rw [notLongL hsz,Bool.and_false]
  exact Bool.false_ne_true
 refine call_meets F.slot_list_extend ⟨_,e,rfl⟩ F.entry_list_extend (F.args_list_extend_2 _ _)
  (AutoSeq1.list_extend_list_list_0 l its.toArray n b its2.toArray n2 hlong (by rw [List.size_toArray]; omega) (by omega)) ⟨e,e2,?_⟩
 refine ⟨.non,_,I.lset (its':=its ++ its2) hH e (by simp) (r.append r2) ?_,rfl,q⟩
 rw [List.length_append]
 omega
def rPop : V -> List V -> Hp -> VK -> Prop:=fun x vs H Q=>∃ l xs y,x = .ref l /\ vs = [] /\ H l = some (.lst xs) /\ xs[xs.length - 1]? = some y /\ Q y (upd H l (.lst xs.dropLast))
theorem mt_pop : MtM X "list.pop" rPop:=by
 intro pins s σ H x vs v us Q I rx rv h
 obtain ⟨l,xs,y,rfl,rfl,hH,hy,q⟩:=h
 cases rx
 have hus:=rv.zero
 subst hus
 obtain ⟨z,its,n,r,hl,e⟩:=I.lstM hH
 obtain ⟨u,hu,ru⟩:=r.get hy
 have hy' : its.toArray[its.toArray.size - 1]? = some u:=by
  show its.toArray[its.length - 1]? = some u
  rw [<- Array.getElem?_toList,<- hl]
  exact hu
 refine call_meets F.slot_list_pop ⟨_,e,rfl⟩ F.entry_list_pop (F.args_list_pop_1 _) (MeetsSeq.list_pop_last l its.toArray n u hy' (by rw [List.size_toArray]; omega)) ⟨e,?_⟩
 refine ⟨y,_,I.lset (its':=its.dropLast) hH e ?_ r.dropLast ?_,ru,q⟩
 ·show its.toArray.eraseIdxIfInBounds (its.toArray.size - 1) = its.dropLast.toArray
  rw [List.size_toArray,List.eraseIdxIfInBounds_toArray,erase_last]
 ·rw [List.length_dropLast]
  omega
def rPopAt : V -> List V -> Hp -> VK -> Prop:=fun x vs H Q=>∃ l xs i k y,x = .ref l /\ vs = [.int i] /\ H l = some (.lst xs) /\ -(2 ^ 63) <= i /\ i < 2 ^ 63 /\ seqIndex? i xs.length = some k /\ xs[k]? = some y /\ Q y (upd H l (.lst (xs.eraseIdx k)))
theorem mt_popAt : MtM X "list.pop" rPopAt:=by
 intro pins s σ H x vs v us Q I rx rv h
 obtain ⟨l,xs,i,k,y,rfl,rfl,hH,h1,h2,hk,hy,q⟩:=h
 cases rx
 obtain ⟨u,rfl,ru⟩:=rv.one
 obtain ⟨t,rfl⟩:=ru
 obtain ⟨z,its,n,r,hl,e⟩:=I.lstM hH
 obtain ⟨w,hw,rw'⟩:=r.get hy
 refine call_meets F.slot_list_pop ⟨_,e,rfl⟩ F.entry_list_pop (F.args_list_pop_2 _ _)
  (MeetsSeq.list_pop_at l its.toArray n i t k w (fitsIndex_both h1 h2) (by rw [List.size_toArray,<- hl]; exact hk) (by rw [<- Array.getElem?_toList]; exact hw) (by rw [List.size_toArray]; omega)) ⟨e,?_⟩
 refine ⟨y,_,I.lset (its':=its.eraseIdx k) hH e ?_ (r.eraseIdx k) ?_,rw',q⟩
 ·show its.toArray.eraseIdxIfInBounds k = (its.eraseIdx k).toArray
  rw [List.eraseIdxIfInBounds_toArray]
 ·have:=len_erase xs k
  omega
def rCat : R2:=fun x y H Q=>∃ l b xs zs,x = .ref l /\ y = .ref b /\ H l = some (.lst xs) /\ H b = some (.lst zs) /\ xs.length + zs.length <= sizeLine /\ ∀ p,H p = none -> Q (.ref p) (upd H p (.lst (xs ++ zs)))
theorem op_cat : OpR X (binaryOp .Add) rCat:=by
 intro pins s σ H x y v u Q I rx ry h
 obtain ⟨l,b,xs,zs,rfl,rfl,hH,hB,hz,q⟩:=h
 cases rx
 cases ry
 obtain ⟨z,its,n,r,hl,e⟩:=I.lstM hH
 obtain ⟨z2,its2,n2,r2,hl2,e2⟩:=I.lstM hB
 refine PySem.P.add_list e e2 ?_ (by rw [List.size_toArray,List.size_toArray]; omega)
 have ea : its.toArray ++ its2.toArray = (its ++ its2).toArray:=by simp
 rw [ea]
 exact ⟨.ref _,_,I.lnew (t':=s.toks) (r.append r2) (by rw [List.length_append]; omega),rfl,q _ I.fresh⟩
def rRep : R2:=fun x y H Q=>∃ l k xs,x = .ref l /\ y = .int k /\ H l = some (.lst xs) /\ -(2 ^ 63) <= k /\ k < 2 ^ 63 /\ xs.length * k.toNat <= sizeLine /\
 ∀ p,H p = none -> Q (.ref p) (upd H p (.lst (List.replicate k.toNat xs).flatten))
theorem len_rep {α : Type} (xs : List α) (k : Nat) : (List.replicate k xs).flatten.length = k * xs.length:=by
 induction k with
 | zero=>simp
 | succ k ih=>rw [List.replicate_succ,List.flatten_cons,List.length_append,ih,Nat.succ_mul,Nat.add_comm]
theorem op_rep : OpR X (binaryOp .Mult) rRep:=by
 intro pins s σ H x y v u Q I rx ry h
 obtain ⟨l,k,xs,rfl,rfl,hH,h1,h2,hz,q⟩:=h
 cases rx
 obtain ⟨t,rfl⟩:=ry
 obtain ⟨z,its,n,r,hl,e⟩:=I.lstM hH
 have hlen : its.toArray.size * k.toNat <= sizeLine:=by rw [List.size_toArray,<- hl]; exact hz
 have hcap : ¬ its.toArray.size * k.toNat > (2 ^ 63 - 1) / 8:=by
  have : (sizeLine : Nat) <= (2 ^ 63 - 1) / 8:=by decide
  omega
 have hfit : ¬ (!Builtin.List.listFitsIndex k) = true:=by
  rw [fitsIndex_both h1 h2]
  exact Bool.false_ne_true
 have hlong : ¬ Builtin.List.listTooLong (its.toArray.size * k.toNat) = true:=by
  rw [notLongL hlen]
  exact Bool.false_ne_true
 have hnew : List.foldl (fun x1 x2=>x1 ++ x2) #[] (List.replicate (if its.toArray.isEmpty = true then 0 else k.toNat) its.toArray) = (List.replicate k.toNat its).flatten.toArray:=by
  have f0 : ∀ m : Nat,List.foldl (fun x1 x2=>x1 ++ x2) #[] (List.replicate m its.toArray) = (List.replicate m its).flatten.toArray:=fun m=>by
   have:=foldl_rep its m []
   rw [List.nil_append] at this
   exact this
  rw [f0]
  cases its with
  | nil=>simp
  | cons a r'=>rw [if_neg (by simp)]
 refine wpAny_binaryOp_repeat_ref (T:="list") (U:="int") (by decide) ⟨_,e,rfl⟩ (fun s'=>typeIs_int s' k t) noFill_list_mul F.fills_int_mul F.slot_int_rmul repeat_list F.slot_int_index.lookup
  (call_meets F.slot_int_rmul (typeIs_int s k t) F.entry_int_rmul (F.args_int_rmul_2 _ _) (int___rmul___int_list k t l its.toArray n)
   ⟨e,rfl,⟨_,e,rfl⟩,call_meets F.slot_list_mul ⟨_,e,rfl⟩ F.entry_list_mul (F.args_list_mul_2 _ _) (AutoListH.list___mul___list_int_3 l its.toArray n k t hfit hcap hlong) ⟨e,?_⟩⟩)
 rw [hnew]
 exact ⟨.ref _,_,I.lnew (t':=s.toks) (r.rep k.toNat) (by rw [len_rep,Nat.mul_comm]; exact hz),rfl,q _ I.fresh⟩
end
section
variable {prog : Program} {w : World} {A : Around} {E : Value -> Shared -> Prop} {s : Shared}
end
section
variable {X : Cx}
end
end L2
namespace Att
open PySem PySem.W PySem.Calls PyProof.Rows
theorem ints_of_wellAll {P : Params} {h : Heap} : ∀ (ns : List Int) (vs : List Value),WellAll P h vs (ns.map WData.int) -> IntsAre vs ns:=by
 intro ns
 induction ns with
 | nil =>
  intro vs w
  rw [List.map_nil] at w
  cases w
  exact .nil
 | cons n ns ih =>
  intro vs w
  rw [List.map_cons] at w
  cases w with
  | cons a b =>
   cases a
   exact .cons _ _ (ih _ b)
theorem script_of {l : OpenLaw} {n : Nat} (hn : l.most = some n) {P : Params} {h : Heap} {args : List WData} {vals : List Value}
  (hpre : l.row.toRowW.claim.pre args = true) (hwl : WellAll P h vals args) :
  ∃ a vs ns,vals = [Value.ref a] /\ args = [WData.list (ns.map WData.int)] /\ h.get? a = some { cls:=.type "list",data:=.seq vs.toArray } /\ IntsAre vs ns /\ ns.length <= n:=by
 have hsh : WShape.hasAll [] args [.list .int] = true:=(pre_splitW hpre).1
 have hc : l.pre.holds [] { args:=args } = true:=(pre_splitW hpre).2
 obtain ⟨d,r,rfl,h1,h2⟩:=hasAllW_cons hsh
 obtain rfl:=hasAllW_nil h2
 obtain ⟨xs,rfl,h3⟩:=hasW_list h1
 obtain ⟨ns,rfl⟩:=items_int h3
 have hlen : ns.length <= n:=by
  unfold OpenLaw.pre at hc
  have h4 : (WTm.not (.lt (.lit (.int (n : Int))) (.len (.arg 0)))).holds [] { args:=[.list (ns.map .int)] } = true:=by
   have h4:=(holds_andW hc).1
   rw [hn] at h4
   exact h4
  have h5:=condW_of h4 (w_not (w_lt w_lit (w_len_list (w_arg rfl))))
  rw [List.length_map] at h5
  refine Nat.le_of_not_lt fun q=>?_
  have q' : (n : Int) < ((ns.length : Nat) : Int):=by omega
  first
   | (rw [decide_eq_true q'] at h5; exact absurd h5 (by decide))
   | (simp at h5; omega)
 cases hwl with
 | cons w1 w2 =>
  cases w2
  cases w1 with
  | list ho hall=>exact ⟨_,_,ns,rfl,rfl,ho,ints_of_wellAll ns _ hall,hlen⟩
theorem post_true (l : OpenLaw) (args : List WData) : l.row.toRowW.claim.post args (.bool true) args = true :=
 postW_of (r:=l.row.toRowW) (X:=(true == true))
  (show WShape.has [] (.bool true) .bool = true by first | rfl | decide | simp [WShape.has,WShape.arms,WShape.armsAll])
  (show (WTm.eq .res (.lit (.bool true))).value [] { args:=args,res:=some (.bool true),after:=args } = some (.bool (true == true)) from w_eq_bool (w_res rfl) w_lit) rfl
theorem attach_call {l : OpenLaw} {n : Nat} {q : Program} {loose : List Str} {XP : (Str -> Option Value) -> Heap -> Prop} {YP : World -> Heap -> Prop} {d : DefRec}
  (hn : l.most = some n) (hdf : d.params.defaults = [])
  (call : ∀ (w : World) (s₀ s₁ : Shared) (mg mb : Str -> Option Value) (fa : Addr) (o : Obj) (pm cd doc : Value) (a : Addr) (vs : List Value) (ns : List Int),
   Ground q loose [] XP w s₀ mg mb s₁.heap -> YP w s₁.heap ->
   s₁.heap.get? fa = some o -> o.data = .func (docDef d.name d.params d.body d.scope pm cd doc) -> s₁.heap.CodeRec cd d.name -> mg d.name = some (.ref fa) ->
   s₁.heap.get? a = some { cls:=.type "list",data:=.seq vs.toArray } -> IntsAre vs ns -> ns.length <= n -> s₁.gens = #[] ->
   codeAny (model l.prog w) callerA (.call (.ref fa) ⟨[.ref a],[]⟩) (fun r s'=>r = .ok (.ret (.bool true)) /\ OldK s₁.heap s'.heap /\ s'.os = s₁.os /\ AllBare s'.gens) s₁) :
  WalkO q loose XP YP l.row.toRowW d [] (fun f vs=>PySem.call f vs):=by
 intro w s₀ s₁ mg mb G Y fa o pm cd doc dV kV ho hd hcd hD hmg hg args vals as hpre hlay hrd hwl hlo
 obtain rfl : dV = .none:=Dflts.none hD hdf
 obtain rfl : kV = .none:=Dflts.noKw hD
 obtain ⟨a,vs,ns,rfl,rfl,hobj,hints,hlen⟩:=script_of hn hpre hwl
 refine enter_call (codeAny_mono (call w s₀ s₁ mg mb fa o pm cd doc a vs ns G Y ho (fd_plain hd) hcd hmg hobj hints hlen hg) fun r s' hq=>?_)
 obtain ⟨rfl,h2,h3,h4⟩:=hq
 exact ⟨.inl ⟨.bool true,.bool true,[],rfl,fun _=>rfl,.bool true,post_true l _,fun _=>⟨List.Pairwise.nil,fun _ hm=>(nomatch hm)⟩⟩,h2,h3,h4⟩
section
variable {prog : Program} {w : World} {A : Around} {E : Value -> Shared -> Prop} {s : Shared} {K : Frag}
end
end Att
namespace L2
open PySem PySem.Spec PyProof.Rows
theorem vals_ints : ∀ {vs : List Value} {ns : List Int},IntsAre vs ns -> Vals (ns.map V.int) vs
 | _,_,.nil=>.nil
 | _,_,.cons n t h=>.cons ⟨t,rfl⟩ (vals_ints h)
def Only (H : Hp) : Prop:=∀ b,H b = none ∨ ∃ o xs,H b = some (.frz o (.lst xs))
theorem law_call {P : Program} {w : World} {K : PySem.W.Frag} {mg mb : Str -> Option Value} {CX : CXT} {k : Nat} {fa a : Addr} {fd : FuncData} {x : Str} {sp : Sp} {s₁ : Shared} {vs : List Value} {ns : List Int}
  (KX : K.In s₁.heap) (hns : s₁.heap.Ns mainGlobals mg) (hb : s₁.heap.Ns builtinsNs mb) (hbb : ∀ x : Str,x ≠ "__name__" -> mb x = bootBuiltins x) (hlim : s₁.heap.NoLimit) (hg : s₁.gens = #[])
  (ha : s₁.heap.get? a = some { cls:=.type "list",data:=.seq vs.toArray }) (hi : IntsAre vs ns) (hl : ns.length <= sizeLine) (hr : Room k callerA)
  (F : ∀ base : Heap,K.In base -> base.Ns mainGlobals mg -> FnOk P w K mg base CX k fa fd [x] sp) (hbind : ∀ (s : Shared) (u : Value),BindsTo s fd ⟨[u],[]⟩ [(x,u)])
  (hsp : ∀ H : Hp,Only H -> SqL K H a (ns.map V.int) -> sp [.ref a] H (fun v _=>v = .bl true) fun _ _ _=>False)
  (hCX : ∀ H e s',CX [] H s₁ (fun _ _ _=>False) e s' -> False) :
  codeAny (model P w) callerA (.call (.ref fa) ⟨[.ref a],[]⟩) (fun r s'=>r = .ok (.ret (.bool true)) /\ OldK s₁.heap s'.heap /\ s'.os = s₁.os /\ AllBare s'.gens) s₁:=by
 have rv:=vals_ints hi
 have lenV:=hi.length
 have core : ∀ H : Hp,Only H -> SqL K H a (ns.map V.int) -> HOk P w H s₁.heap -> (∀ b,H b ≠ none -> b = a) -> (H a ≠ none -> K.lookup a = none) ->
   codeAny (model P w) callerA (.call (.ref fa) ⟨[.ref a],[]⟩) (fun r s'=>r = .ok (.ret (.bool true)) /\ OldK s₁.heap s'.heap /\ s'.os = s₁.os /\ AllBare s'.gens) s₁:=by
  intro H hO hS hok hA hK
  have base_of : ∀ {b : Addr} {o : Obj},s₁.heap.get? b = some o -> H b = none -> (hidT s₁.heap H).get? b = some o:=fun e n=>hidT_get e n
  have noA : ∀ {b : Addr} {o : Obj} {es : Array DictEntry} {ep : Nat},s₁.heap.get? b = some o -> o.data = .dict es ep -> H b = none:=fun {b o es ep} e d=>by
   cases q : H b with
   | none=>rfl
   | some u =>
    have e' : b = a:=hA b (by rw [q]; simp)
    subst e'
    rw [ha] at e; cases e
    have d' : Data.seq vs.toArray _ = Data.dict es ep:=d
    cases d'
  have nsK : ∀ {b : Addr} {m : Str -> Option Value},s₁.heap.Ns b m -> (hidT s₁.heap H).Ns b m:=fun {b m} ⟨o,es,ep,e,d,r⟩=>⟨o,es,ep,base_of e (noA e d),d,r⟩
  have hKb : K.In (hidT s₁.heap H):=fun b o e=>base_of (KX b o e) (by
   cases q : H b with
   | none=>rfl
   | some u =>
    have e' : b = a:=hA b (by rw [q]; simp)
    subst e'
    rw [hK (by rw [q]; simp)] at e; cases e)
  have hM : Mod K mg (hidT s₁.heap H):=⟨hKb,nsK hns,⟨mb,nsK hb,hbb⟩,let ⟨mc,h1,h2⟩:=hlim; ⟨mc,nsK h1,h2⟩⟩
  have e0 : Env0 P w K mg (hidT s₁.heap H) callerA [] s₁ H:=⟨rfl,hM,fun b o e=>of_hidT e,Nat.le_of_eq (hidT_size _ _),trivial,fun b hb=>absurd (show b ∈ ([] : List Addr) from hb) (by simp),hok,.of_eq hg⟩
  refine codeAny_mono ((F _ hKb (nsK hns)).run callerA [] s₁ H ⟨[.ref a],[]⟩ [.ref a] [.ref a] _ _ hr e0 (hbind s₁ (.ref a)) (.cons rfl .nil) (hsp H hO hS)) fun r s' h=>?_
  cases r with
  | error e=>exact (hCX H e s' h).elim
  | ok fl =>
   cases fl with
   | next=>exact False.elim h
   | brk=>exact False.elim h
   | cont=>exact False.elim h
   | ret u =>
    obtain ⟨v,H',os,bare,un,hok',r',q⟩:=h
    have q' : v = .bl true:=q
    subst q'
    obtain rfl : u = Value.bool true:=r'
    refine ⟨rfl,OldK.of_keep fun b o e=>?_,os,bare⟩
    cases q : H b with
    | none=>exact un.keep b o e q (by intro z; exact absurd (show b ∈ ([] : List Addr) from z) (by simp)) (by simp)
    | some u =>
     rcases hO b with z | ⟨ob,xs,z⟩
     ·rw [q] at z; cases z
     ·have z2:=un.frzs b ob _ z
      obtain ⟨e1,_⟩:=hok b _ z
      obtain ⟨e2,_⟩:=hok' b _ z2
      rw [e] at e1; cases e1
      exact e2
 cases hk : K.lookup a with
 | some o =>
  have e:=KX a o hk
  rw [ha] at e
  cases e
  refine core (fun _=>none) (fun _=>.inl rfl) (.inr ⟨_,vs.toArray,_,hk,rfl,rfl,rfl,by rw [List.size_toArray,lenV]; exact hl,by simpa using rv⟩) (fun b u z=>by have z' : (none : Option HO) = some u:=z; cases z') (fun b z=>absurd rfl z) fun z=>absurd rfl z
 | none =>
  refine core (fun b=>if b = a then some (.frz { cls:=.type "list",data:=.seq vs.toArray } (.lst (ns.map V.int))) else none) (fun b=>?_) (.inl (.inr ⟨{ cls:=.type "list",data:=.seq vs.toArray },if_pos rfl⟩)) (fun b u z=>?_) (fun b z=>?_) fun _=>hk
  ·by_cases hb : b = a
   ·exact .inr ⟨_,_,if_pos hb⟩
   ·exact .inl (if_neg hb)
  ·by_cases hb : b = a
   ·have z':=(if_pos hb).symm.trans z
    cases z'
    subst hb
    exact ⟨ha,by rw [List.length_map]; exact hl,vs,_,rv,ha⟩
   ·have z':=(if_neg hb).symm.trans z
    cases z'
  ·by_cases hb : b = a
   ·exact hb
   ·exact absurd (if_neg hb) z
end L2
namespace L2
open PySem PySem.Spec PyProof.Rows
abbrev KOf {K : PySem.W.Frag} {h : Heap} (_ : K.In h) : PySem.W.Frag:=K
theorem walk_of {l : PySem.W.OpenLaw} {n k : Nat} {q : Program} {loose : List Str} {XP : (Str -> Option Value) -> Heap -> Prop} {YP : World -> Heap -> Prop} {d : DefRec} {K : Params -> PySem.W.Frag} {CX : World -> CXT} {sp : World -> Sp} {x : Str}
  (hn : l.most = some n) (hn2 : n <= sizeLine) (hdf : d.params.defaults = []) (hr : Room k callerA)
  (hY : ∀ (w : World) (h : Heap),YP w h -> (K w.params).In h)
  (F : ∀ (w : World) (mg : Str -> Option Value) (fa : Addr) (h : Heap),(K w.params).In h -> h.Ns mainGlobals mg -> mg d.name = some (.ref fa) ->
   ∃ fd : FuncData,(∀ (s : Shared) (u : Value),BindsTo s fd ⟨[u],[]⟩ [(x,u)]) /\
    ∀ base : Heap,(K w.params).In base -> base.Ns mainGlobals mg -> FnOk l.prog w (K w.params) mg base (CX w) k fa fd [x] (sp w))
  (hsp : ∀ (w : World) (H : Hp) (a : Addr) (ns : List Int),ns.length <= n -> Only H -> SqL (K w.params) H a (ns.map V.int) -> sp w [.ref a] H (fun v _=>v = .bl true) fun _ _ _=>False)
  (hCX : ∀ (w : World) (H : Hp) (s : Shared) (e : Value) (s' : Shared),CX w [] H s (fun _ _ _=>False) e s' -> False) :
  PySem.W.WalkO q loose XP YP l.row.toRowW d [] (fun f vs=>PySem.call f vs):=by
 refine Att.attach_call hn hdf fun w s₀ s₁ mg mb fa o pm cd doc a vs ns G Y ho hd hcd hmg hobj hints hlen hg=>?_
 have KX:=hY w _ Y
 obtain ⟨fd,hb,hF⟩:=F w mg fa _ KX G.T.g hmg
 exact law_call KX G.T.g G.T.b G.T.builtins G.T.nolimit hg hobj hints (Nat.le_trans hlen hn2) hr hF hb (fun H hO hS=>hsp w H a ns hlen hO hS) fun H e s'=>hCX w H s₁ e s'
end L2
/- THE LAST THEOREM (shape; LID,My.* are yours):
  My.Adr: a structure of the addresses that your layer names (classes,functions); My.Txt K t: a structure (Prop) of the equations over K;
  My.txt_mk : {K} {implicit addresses ..} (e1 : nsIn K mainGlobals "law" = some (some (.ref f))) (e2 : K.lookup f = some ⟨oc,od,.func (fnOf "law" "law" params body scope dV kV doc pm an cdv ct),sl⟩) (e3 : codeIn K cdv "law" = true) .. : ∃ t,My.Txt K t
set_option maxRecDepth 100000 in
set_option maxHeartbeats 0 in
theorem PySem.Challenge.cw_LID_holds : PySem.Challenge.rw_LID.Holds:=by
 w_on; o_law; k_head; (case hw=>w_witness2)
 k_fill
 refine L2.walk_of (l:=PySem.Challenge.rw_LID) (n:=63) (k:=40) (x:="script") (CX:=fun w=>..) (sp:=fun _=>My.sp_law) rfl (by decide) rfl ⟨rfl,by decide,by decide⟩ (fun w h Y=>PySem.W.kIn_of Y) ?F ?S ?C
 case F =>
  intro w mg fa h KX G hmg
  have T : ∃ t,My.Txt (L2.KOf KX) t:=by
   dsimp only [L2.KOf]
   refine' My.txt_mk ?e1 ?e2 ?e3 ..
   (case e1=>PySem.W.k_is)
   (case e2=>PySem.W.k_is)
   ..
  obtain ⟨t,T⟩:=T
  have e0:=hmg.symm.trans (PySem.W.mg_of KX G T.law)
  cases e0
  exact ⟨_,fun s u=>.of_eq rfl,fun base kb nb=>My.law_fn T kb nb⟩
 case S=>exact fun w H a ns hl hO hS=>..
 case C=>exact ..
(the tactic k_is has no namespace: write k_is) -/
namespace L2
open PySem PySem.Spec PyProof.Rows
def inClass (s : Stmt) (j : Nat) : Stmt:=match s with
 | .ClassDef _ _ _ body _ _ _ _ _ _ _=>body.getD j (.Pass ⟨0,0,0,0⟩)
 | _=>.Pass ⟨0,0,0,0⟩
def defArgs (s : Stmt) : Arguments:=match s with
 | .FunctionDef _ a _ _ _ _ _ _ _ _=>a
 | _=>{ posonlyargs:=[],args:=[],vararg:=none,kwonlyargs:=[],kw_defaults:=[],kwarg:=none,defaults:=[] }
def defBody (s : Stmt) : List Stmt:=match s with
 | .FunctionDef _ _ b _ _ _ _ _ _ _=>b
 | _=>[]
def defScope (s : Stmt) : Scope:=match s with
 | .FunctionDef _ _ _ _ _ _ sc _ _ _=>sc
 | _=>{ kind:=.function,names:=[],isGenerator:=false,isCoroutine:=false }
abbrev CX0 : CXT:=fun _ _ _ _ _ _=>False
abbrev E0 : XK:=fun _ _ _=>False
theorem pass0 {X : Cx} : Passes CX0 X E0:=fun _ _ _ _ _ _ _ h=>h.elim
structure Fun (K : PySem.W.Frag) (x qual : Str) (st : Stmt) (f : Addr) (fd : FuncData) : Prop where
 ex : ∃ (oc : Value) (od : Option Addr) (kV doc pm : Value) (an : Option Addr) (cdv ct : Value) (osl : Array (Option Value)),
  fd = PySem.W.fnOf x qual (defArgs st) (defBody st) (defScope st) .none kV doc pm an cdv ct /\ K.lookup f = some ⟨oc,od,.func fd,osl⟩ /\ PySem.W.codeIn K cdv qual = true
 kp : PySem.W.keepIn K (.ref f) = true
section
variable {P : Program} {w : World} {K : PySem.W.Frag} {mg : Str -> Option Value} {base : Heap}
theorem Fun.ok {x qual : Str} {st : Stmt} {f : Addr} {fd : FuncData} {N ps : List Str} {k : Nat} {sp : Sp} (F : Fun K x qual st f fd) (S : FnScope N ps (defScope st)) (len : ∀ vs H Q E,sp vs H Q E -> vs.length = ps.length)
  (hbody : ∀ (cdv : Value) (A : Around) (outer : List Env) (s : Shared) (H : Hp) (vs : List V) (Q : VK) (E : XK),Room k (A.deeper (envOfC qual (defScope st) s.heap.objs.size f cdv)) -> sp vs H Q E ->
   ∃ t,PSs (cxOf CX0 P w K mg base N qual (defScope st) f cdv A outer s H E).nox (defBody st) t /\ t { nx:=fun _ H'=>Q .non H',rt:=Q } (start N vs) H) : FnOk P w K mg base CX0 (k + 1) f fd ps sp:=by
 obtain ⟨oc,od,kV,doc,pm,an,cdv,ct,osl,rfl,lk,hcd⟩:=F.ex
 refine fn_of lk hcd S len fun A outer s H vs Q E hr hsp=>?_
 obtain ⟨t,h,q⟩:=hbody cdv A outer s H vs Q E hr hsp
 exact ⟨t,h.nox,q⟩
theorem Fun.binds {x qual : Str} {st : Stmt} {f : Addr} {fd : FuncData} {ps : List Str} (F : Fun K x qual st f fd)
  (h : ∀ (kV doc pm : Value) (an : Option Addr) (cdv ct : Value) (us : List Value),us.length = ps.length -> bindArgs (PySem.W.fnOf x qual (defArgs st) (defBody st) (defScope st) .none kV doc pm an cdv ct) ⟨us,[]⟩ = pure (ps.zip us)) : Binds K fd ps []:=by
 obtain ⟨oc,od,kV,doc,pm,an,cdv,ct,osl,rfl,lk,hcd⟩:=F.ex
 exact .all (h kV doc pm an cdv ct)
theorem fun_mk {x qual : Str} {st : Stmt} {f : Addr} {oc : Value} {od an : Option Addr} {osl : Array (Option Value)} {kV doc pm cdv ct : Value} (l : K.lookup f = some ⟨oc,od,.func (PySem.W.fnOf x qual (defArgs st) (defBody st) (defScope st) .none kV doc pm an cdv ct),osl⟩)
  (c : PySem.W.codeIn K cdv qual = true) (k : PySem.W.keepIn K (.ref f) = true) : Fun K x qual st f (PySem.W.fnOf x qual (defArgs st) (defBody st) (defScope st) .none kV doc pm an cdv ct):=⟨⟨oc,od,kV,doc,pm,an,cdv,ct,osl,rfl,l,c⟩,k⟩
end
section
variable {X : Cx}
theorem pv (i : Nat) {x : Str} {pos : Pos} (hN : X.N[i]? = some x:=by rfl) (hv : Vis X.env.scope x:=by first | exact Or.inl rfl | exact Or.inr (Or.inl rfl) | exact Or.inr (Or.inr rfl)) (hd : (x == ("__debug__" : Str)) = false:=by decide)
  (hcd : (x == ("__classdict__" : Str)) = false:=by decide) : PE X (.Name x pos) (tVar i):=pe_var hN hv hd hcd
end
theorem iteF {A B : Prop} (h : B) : if false = true then A else B:=by
 rw [if_neg Bool.false_ne_true]
 exact h
theorem iteT {A B : Prop} (h : A) : if true = true then A else B:=by
 rw [if_pos rfl]
 exact h
theorem ite2 {c A B : Prop} [Decidable c] (h1 : c -> A) (h2 : ¬ c -> B) : if c then A else B:=by
 by_cases h : c
 ·rw [if_pos h]
  exact h1 h
 ·rw [if_neg h]
  exact h2 h
def Same (H H' : Hp) : Prop:=∀ b o,H b = some o -> H' b = some o
theorem Same.refl (H : Hp) : Same H H:=fun _ _ h=>h
theorem Same.trans {H H1 H2 : Hp} (a : Same H H1) (b : Same H1 H2) : Same H H2:=fun c o h=>b c o (a c o h)
theorem Same.free {H H' : Hp} (e : Same H H') {l : Addr} (h : H' l = Option.none) : H l = Option.none:=by
 cases q : H l with
 | none=>rfl
 | some o =>
  rw [e l o q] at h
  cases h
theorem Same.seq {K : PySem.W.Frag} {H H' : Hp} {a : Addr} {xs : List V} (e : Same H H') (h : SqL K H a xs) : SqL K H' a xs:=by
 rcases h with (h | ⟨o,h⟩) | h
 ·exact .inl (.inl (e _ _ h))
 ·exact .inl (.inr ⟨o,e _ _ h⟩)
 ·exact .inr h
end L2
namespace L2
open PySem PySem.Spec PyProof.Rows
theorem closure_go {env : Env} : ∀ (names : List (Str × NameKind)) (acc : List (Str × Addr)),(∀ y ∈ names,y.2 = NameKind.free -> ∃ c,env.cells.lookup y.1 = some c) -> (∀ y c,acc.lookup y = some c -> env.cells.lookup y = some c) ->
  ∃ cl,(forIn names acc fun (x : Str × NameKind) (r : List (Str × Addr))=>(if x.2 == NameKind.free then do let a <- cellOf env x.1; pure (ForInStep.yield ((x.1,a) :: r)) else pure (ForInStep.yield r) : Sem (ForInStep (List (Str × Addr))))) = pure cl /\
   (∀ y c,cl.lookup y = some c -> env.cells.lookup y = some c) /\ (∀ y,(∃ c,acc.lookup y = some c) -> ∃ c,cl.lookup y = some c) /\ ∀ y,(y,NameKind.free) ∈ names -> ∃ c,cl.lookup y = some c
 | [],acc,_,ha=>⟨acc,rfl,ha,fun _ h=>h,fun _ h=>by cases h⟩
 | (n,k) :: r,acc,hf,ha=>by
  by_cases hk : k = NameKind.free
  ·subst hk
   obtain ⟨c,hc⟩:=hf (n,.free) List.mem_cons_self rfl
   have ha' : ∀ y c',((n,c) :: acc).lookup y = some c' -> env.cells.lookup y = some c':=fun y c' h=>by
    rw [List.lookup_cons] at h
    cases e : y == n with
    | true =>
     rw [e] at h
     cases h
     have e' : y = n:=by simpa using e
     rw [e']; exact hc
    | false=>rw [e] at h; exact ha y c' h
   obtain ⟨cl,h1,h2,h3,h4⟩:=closure_go r ((n,c) :: acc) (fun y hy=>hf y (List.mem_cons_of_mem _ hy)) ha'
   refine ⟨cl,?_,h2,fun y hy=>h3 y ?_,fun y hy=>?_⟩
   ·rw [List.forIn_cons]
    simp only [beq_self_eq_true,if_true,cellOf,hc,pure_bind]
    exact h1
   ·rw [List.lookup_cons]
    cases e : y == n with
    | true=>exact ⟨c,rfl⟩
    | false=>exact hy
   ·rcases List.mem_cons.mp hy with e | hy
    ·cases e
     exact h3 n ⟨c,by rw [List.lookup_cons,beq_self_eq_true]⟩
    ·exact h4 y hy
  ·have hb : (k == NameKind.free) = false:=by simpa using hk
   obtain ⟨cl,h1,h2,h3,h4⟩:=closure_go r acc (fun y hy=>hf y (List.mem_cons_of_mem _ hy)) ha
   refine ⟨cl,?_,h2,h3,fun y hy=>?_⟩
   ·rw [List.forIn_cons]
    simp only [hb,Bool.false_eq_true,if_false,pure_bind]
    exact h1
   ·rcases List.mem_cons.mp hy with e | hy
    ·cases e; exact absurd rfl hk
    ·exact h4 y hy
theorem closure_of {scope : Scope} {env : Env} (h : ∀ y ∈ scope.names,y.2 = NameKind.free -> ∃ c,env.cells.lookup y.1 = some c) :
  ∃ cl,closureFor scope env = pure cl /\ (∀ y c,cl.lookup y = some c -> env.cells.lookup y = some c) /\ ∀ y,(y,NameKind.free) ∈ scope.names -> ∃ c,cl.lookup y = some c:=by
 obtain ⟨cl,h1,h2,_,h4⟩:=closure_go scope.names [] h (fun y c z=>by simp at z)
 refine ⟨cl,?_,h2,h4⟩
 have e : closureFor scope env = ((forIn scope.names ([] : List (Str × Addr)) fun (x : Str × NameKind) (r : List (Str × Addr))=>(if x.2 == NameKind.free then do let a <- cellOf env x.1; pure (ForInStep.yield ((x.1,a) :: r)) else pure (ForInStep.yield r) : Sem (ForInStep (List (Str × Addr))))) >>= fun cs=>pure cs):=rfl
 rw [e,h1]
 rfl
structure CompOk (N : List Str) (fs scope : Scope) (x : Str) : Prop where
 kind : scope.kind = .function
 cell : ∀ y ∈ scope.names,y.2 ≠ NameKind.cell
 free : ∀ y ∈ scope.names,y.2 = NameKind.free -> fs.names.lookup y.1 = some .cell ∨ fs.names.lookup y.1 = some .free
 locs : ∀ y ∈ scope.names,y.2 = NameKind.local -> scope.names.lookup y.1 = some .local /\ y.1 ∉ N
 own : scope.names.lookup x = some .local
def compOk (N : List Str) (fs scope : Scope) (x : Str) : Bool :=
 decide (scope.kind = .function) && scope.names.all (fun y=>decide (y.2 ≠ NameKind.cell) && (decide (y.2 ≠ NameKind.free) || decide (fs.names.lookup y.1 = some .cell) || decide (fs.names.lookup y.1 = some .free)) &&
  (decide (y.2 ≠ NameKind.local) || (decide (scope.names.lookup y.1 = some .local) && decide (y.1 ∉ N)))) && decide (scope.names.lookup x = some .local)
theorem CompOk.of {N : List Str} {fs scope : Scope} {x : Str} (h : compOk N fs scope x = true) : CompOk N fs scope x:=by
 unfold compOk at h
 simp only [Bool.and_eq_true,Bool.or_eq_true,decide_eq_true_eq,List.all_eq_true] at h
 obtain ⟨⟨h1,h2⟩,h3⟩:=h
 refine ⟨h1,fun y hy=>(h2 y hy).1.1,fun y hy e=>?_,fun y hy e=>?_,h3⟩
 ·rcases (h2 y hy).1.2 with (z | z) | z
  ·exact absurd e z
  ·exact .inl z
  ·exact .inr z
 ·rcases (h2 y hy).2 with z | z
  ·exact absurd e z
  ·exact z
def compCx (X : Cx) (x : Str) (scope : Scope) (cl : List (Str × Addr)) (C : Addr) (fp : List Addr) (s₀ : Shared) (H₀ : Hp) : Cx :=
 { X with N:=X.N ++ [x],s₀:=s₀,H₀:=H₀,env:=compEnvC scope cl C X.env,outer:=X.stack,stack:=X.stack,ex:=fp,fn:=fun _=>false,pn:=[],xe:=fun _ _=>False }
theorem lookup_map_kind {f : Str × NameKind -> NameKind} {y : Str} : ∀ {l : List (Str × NameKind)} {k : NameKind},(l.map fun p=>(p.1,f p)).lookup y = some k -> ∃ k0,(y,k0) ∈ l /\ l.lookup y = some k0 /\ k = f (y,k0)
 | [],_,h=>by simp at h
 | (n,k0) :: r,k,h=>by
  rw [List.map_cons,List.lookup_cons] at h
  cases e : y == n with
  | true =>
   rw [e] at h
   have e' : y = n:=by simpa using e
   subst e'
   cases h
   exact ⟨k0,List.mem_cons_self,by rw [List.lookup_cons,e],rfl⟩
  | false =>
   rw [e] at h
   obtain ⟨k1,h1,h2,h3⟩:=lookup_map_kind h
   exact ⟨k1,List.mem_cons_of_mem _ h1,by rw [List.lookup_cons,e]; exact h2,h3⟩
theorem relabel_kind {scope : Scope} {env : Env} {y : Str} {k : NameKind} (h : (relabel scope env).names.lookup y = some k) :
  (scope.names.lookup y = some k /\ (y,k) ∈ scope.names) ∨ (k = .cell /\ scope.names.lookup y = some .free /\ (y,NameKind.free) ∈ scope.names):=by
 have e : (relabel scope env).names = scope.names.map fun p=>(p.1,(fun (q : Str × NameKind)=>if (q.2 == NameKind.free && env.scope.kind == .function && env.kindOf q.1 == some .cell) = true then NameKind.cell else q.2) p):=by
  unfold relabel
  refine List.map_congr_left fun p _=>?_
  obtain ⟨n,k⟩:=p
  dsimp only
  split <;> rfl
 rw [e] at h
 obtain ⟨k0,h1,h2,h3⟩:=lookup_map_kind h
 dsimp only at h3
 split at h3
 ·rename_i c
  simp only [Bool.and_eq_true,beq_iff_eq] at c
  obtain ⟨⟨c1,_⟩,_⟩:=c
  subst c1
  exact .inr ⟨h3,h2,h1⟩
 ·subst h3
  exact .inl ⟨h2,h1⟩
section
variable {X : Cx} {pins : List (Addr × Obj)} {σ : St} {H : Hp} {s : Shared}
theorem comp_inv {x : Str} {scope : Scope} {cl : List (Str × Addr)} {C : Addr} {fp : List Addr} {s' : Shared} (I : Inv X pins σ H s) (ok : CompOk X.N X.env.scope scope x)
  (c1 : ∀ y c,cl.lookup y = some c -> X.env.cells.lookup y = some c) (c2 : ∀ y,(y,NameKind.free) ∈ scope.names -> ∃ c,cl.lookup y = some c) (hf : ∀ b ∈ fp,FpOk X pins H b)
  (hC : s.heap.objs.size <= C) (hn : s'.heap.Ns C fun _=>none) (hk : ∀ b o,s.heap.get? b = some o -> s'.heap.get? b = some o) (ho : s'.os = s.os) (hg : s'.gens = s.gens) (hfs : ∀ b ∈ fp,b < s.heap.objs.size) :
  Inv (compCx X x scope cl C fp s H) [] (σ ++ [none]) H s':=by
 have fresh : H C = none:=I.hok.fresh hC
 have CneC : ∀ y c,cl.lookup y = some c -> c ≠ C:=fun y c e z=>by
  obtain ⟨v,q⟩:=I.cell y c (c1 y c e)
  exact absurd (Nat.lt_of_lt_of_le q.lt (by rw [z]; exact hC)) (Nat.lt_irrefl _)
 refine ⟨⟨I.ok.mod,ok.kind,I.ok.glob,I.ok.blt,hC,fun y z c h1 h2=>I.ok.inj y z c (c1 y c h1) (c1 z c h2),fun y hy=>?_,fun y c z=>?_,I.ok.hd,I.ok.frames,.inl rfl,fun b hb=>⟨?_,fun y c e=>(hf b hb).2.2.2.2.1 y c (c1 y c e)⟩,
   I.bs,Nat.le_trans I.ok.bsz I.sz,fun b o e hb=>?_,fun b hb hb2=>?_,I.stack,I.stkFree⟩,
  ho,by rw [hg]; exact I.bare,Un.kept hk,⟨_,hn,fun i y v h1 h2 h3=>?_⟩,fun y c e=>?_,fresh,fun y c e=>I.freeC y c (c1 y c e),fun p hp=>absurd (show p ∈ ([] : List (Addr × Obj)) from hp) (by simp),I.hok.kept hk,?_⟩
 ·
  have hy : (relabel scope X.env).names.lookup y = some .cell ∨ (relabel scope X.env).names.lookup y = some .free:=hy
  have hm : (y,NameKind.free) ∈ scope.names:=by
   rcases hy with hy | hy
   ·rcases relabel_kind hy with ⟨_,z⟩ | ⟨_,_,z⟩
    ·exact absurd rfl (ok.cell _ z)
    ·exact z
   ·rcases relabel_kind hy with ⟨_,z⟩ | ⟨_,_,z⟩
    ·exact z
    ·exact z
  exact c2 y hm
 ·exact absurd (show false = true from z) (by decide)
 ·exact Nat.ne_of_lt (Nat.lt_of_lt_of_le (hfs b hb) hC)
 ·
  rcases (hf b hb).2.2.2.1 with z | z
  ·exact I.ok.noex b o e z
  ·exact absurd (Nat.lt_of_lt_of_le (Heap.lt_size (I.ok.bs b o e).1) z) (Nat.lt_irrefl _)
 ·
  have hb2 : b ∈ frs X.stack:=hb2
  rcases List.mem_cons.mp (I.stkSub b hb2) with z | z
  ·exact (hf b hb).2.1 z
  ·exact (hf b hb).2.2.1 z
 ·
  have hy : (relabel scope X.env).names.lookup y = some .local ∨ (relabel scope X.env).names.lookup y = some .cell ∨ (relabel scope X.env).names.lookup y = some .free:=h3
  have h1 : (X.N ++ [x])[i]? = some y:=h1
  by_cases hi : i < X.N.length
  ·have e1 : X.N[i]? = some y:=by rw [List.getElem?_append_left hi] at h1; exact h1
   have e2 : σ[i]? = some (some v):=by rw [List.getElem?_append_left (by rw [I.len]; exact hi)] at h2; exact h2
   have hyN : y ∈ X.N:=List.mem_of_getElem? e1
   have hm : ((y,NameKind.free) ∈ scope.names) /\ ((relabel scope X.env).names.lookup y = some .cell ∨ (relabel scope X.env).names.lookup y = some .free):=by
    rcases hy with hy | hy | hy
    ·rcases relabel_kind hy with ⟨_,z⟩ | ⟨z,_⟩
     ·exact absurd hyN (ok.locs _ z rfl).2
     ·cases z
    ·rcases relabel_kind hy with ⟨_,z⟩ | ⟨_,_,z⟩
     ·exact absurd rfl (ok.cell _ z)
     ·exact ⟨z,.inl hy⟩
    ·rcases relabel_kind hy with ⟨_,z⟩ | ⟨_,_,z⟩
     ·exact ⟨z,.inr hy⟩
     ·exact ⟨z,.inr hy⟩
   obtain ⟨c,hc⟩:=c2 y hm.1
   obtain ⟨m,_,hl⟩:=I.loc
   have hv : Vis X.env.scope y:=by
    rcases ok.free _ hm.1 rfl with z | z
    ·exact .inr (.inl z)
    ·exact .inr (.inr z)
   obtain ⟨u,r,l⟩:=hl i y v e1 e2 hv
   refine ⟨u,r,.inr ⟨hm.2,c,hc,?_⟩⟩
   rcases l with ⟨kl,_⟩ | ⟨_,c',e',q⟩
   ·have kl : X.env.scope.names.lookup y = some .local:=kl
    rcases ok.free _ hm.1 rfl with z | z
    ·rw [kl] at z; cases z
    ·rw [kl] at z; cases z
   ·rw [c1 y c hc] at e'
    cases e'
    obtain ⟨oc,hoc,hd⟩:=q
    exact ⟨oc,hk _ _ hoc,hd⟩
  ·rw [List.getElem?_append_right (by rw [I.len]; omega)] at h2
   have : i - σ.length = 0 ∨ 1 <= i - σ.length:=by omega
   rcases this with z | z
   ·rw [z] at h2; cases h2
   ·rw [List.getElem?_eq_none (by simpa using z)] at h2; cases h2
 ·obtain ⟨v,oc,hoc,hd⟩:=I.cell y c (c1 y c e)
  exact ⟨v,oc,hk _ _ hoc,hd⟩
 ·show (σ ++ [none]).length = (X.N ++ [x]).length
  rw [List.length_append,List.length_append,I.len] <;> rfl
end
end L2
namespace L2
open PySem PySem.Spec PyProof.Rows
def PTs (X : Cx) (ifs : List Expr) (t : TT) : Prop :=
 ∀ (pins : List (Addr × Obj)) (s : Shared) (σ : St) (H : Hp) (Q : Bool -> Hp -> Prop),Inv X pins σ H s -> t σ H Q ->
  wpAny (model X.prog X.w) X.A (forIn ifs true fun c r=>if r = true then do let ok <- isTrue c X.env (eval c X.env); pure (ForInStep.yield ok) else pure (ForInStep.yield r)) (TP X pins σ Q) X.xe s
def tYes : TT:=fun _ H Q=>Q true H
theorem pts_nil {X : Cx} : PTs X [] tYes:=fun _ _ _ H _ I h=>wpAny_tests_nil ⟨H,I,h⟩
theorem thnF {α : Type} {t : Sem α} {Q Q' : α -> Shared -> Prop} {M : Model} {A : Around} {E : Value -> Shared -> Prop} {s : Shared} (h : wpAny M A t Q (fun _ _=>False) s) (hQ : ∀ a s,Q a s -> Q' a s) : wpAny M A t Q' E s:=wpAny_mono h hQ fun _ _ x=>x.elim
def CompRd (J : It) (tt : TT) (te : TE) (fin : List V -> Hp -> Prop) (σ : St) (H : Hp) : Prop :=
 ∃ W : Nat -> Nat -> List V -> Hp -> Prop,(∃ m,W 0 m [] H) /\ ∀ i m ys H,W i m ys H ->
  (J.stop i H /\ fin ys H) ∨ (J.go i H /\ ∀ x H',J.yld i H x H' -> tt (σ ++ [some x]) H' fun b H2 =>
   if b = true then te (σ ++ [some x]) H2 fun y H3=>ys.length < sizeLine /\ ∃ m',m' < m /\ W (i + 1) m' (ys ++ [y]) H3 else ∃ m',m' < m /\ W (i + 1) m' ys H2)
def listAt (its : List Value) (c : Nat) : Obj:={ cls:=.type "list",data:=.seq its.toArray c }
section
variable {X : Cx} {pins : List (Addr × Obj)} {σ : St} {H : Hp} {s : Shared} {E : Value -> Shared -> Prop}
theorem comp_core {elt iter : Expr} {x : Str} {px : Pos} {ifs : List Expr} {scope : Scope} {pos : Pos} {cl : List (Str × Addr)} {J : It} {it : Addr} {fp : List Addr} {tn : Nat -> Heap -> Prop} {tt : TT} {te : TE} {fin : List V -> Hp -> Prop}
  {RR : Value -> Addr -> Result -> Shared -> Prop} (I : Inv X pins σ H s) (hcalm : X.calm = true) (ok : CompOk X.N X.env.scope scope x) (hN : (X.N ++ [x]).Nodup)
  (c1 : ∀ y c,cl.lookup y = some c -> X.env.cells.lookup y = some c) (c2 : ∀ y,(y,NameKind.free) ∈ scope.names -> ∃ c,cl.lookup y = some c)
  (T : Turn X.prog X.w X.K (.Name x px) J fp it tn) (st : tn 0 s.heap) (hf : ∀ b ∈ fp,FpOk X pins H b)
  (ht : ∀ C fp s₀ H₀,PTs (compCx X x scope cl C fp s₀ H₀) ifs tt) (he : ∀ C fp s₀ H₀,PE (compCx X x scope cl C fp s₀ H₀) elt te) (rd : CompRd J tt te fin σ H)
  (hR : ∀ (D C : Addr) (ys : List V) (H' : Hp) (s' : Shared),H' D = none -> fin ys H' -> Inv X pins σ (upd H' D (.lst ys)) s' -> (∃ m,s'.heap.Ns C m) -> FpOk X pins (upd H' D (.lst ys)) C -> RR (.ref D) C (.ok .next) s') :
  wpAny (model X.prog X.w) X.A (newList []) (fun acc s₃=>wpAny (model X.prog X.w) X.A (newFunctionEnv scope X.env.globals cl [] X.env.qual none .none (some X.env)) (fun cenv s₄ =>
   codeAny (model X.prog X.w) X.A (.compStart (.ListComp elt [⟨.Name x px,iter,ifs,0⟩] scope pos) 0 (.ref it) acc { cenv with scope:=relabel scope X.env }) (RR acc cenv.locals) s₄) E s₃) E s:=by
 refine wpAny_newObj_type (wpAny_newFunctionEnv ok.cell (by intro y hy; simp at hy) (fun h₁ hns₁ hsb₁=>?_) ok.kind)
 dsimp only at hns₁ hsb₁ ⊢
 generalize hH2 : s.heap.push { cls:=.type "list",dict:=none,data:=.seq ([] : List Value).toArray } = H2 at hns₁ hsb₁ ⊢
 have hC : H2.objs.size = s.heap.objs.size + 1:=by rw [<- hH2,Heap.size_push]
 have hDC : s.heap.objs.size ≠ H2.objs.size:=by rw [hC]; exact Nat.ne_of_lt (Nat.lt_succ_self _)
 have hCle : s.heap.objs.size <= H2.objs.size:=by rw [hC]; exact Nat.le_succ _
 have below : ∀ b,b < s.heap.objs.size -> b ≠ H2.objs.size /\ b ≠ s.heap.objs.size:=fun b hb=>⟨by rw [hC]; exact Nat.ne_of_lt (Nat.lt_succ_of_lt hb),Nat.ne_of_lt hb⟩
 have old : ∀ b o,s.heap.get? b = some o -> h₁.get? b = some o:=fun b o e=>hsb₁.extBut b o (below b (Heap.lt_size e)).1 (Heap.get?_push_of_some _ (hH2 ▸ Heap.get?_push_of_some _ e))
 have hD : h₁.get? s.heap.objs.size = some (listAt [] 0):=hsb₁.extBut _ _ hDC (Heap.get?_push_of_some _ (hH2 ▸ Heap.get?_push_size _ rfl))
 have hfs : ∀ b ∈ fp,b < s.heap.objs.size:=fun b hb=>let ⟨_,e,_⟩:=T.obj 0 _ st b hb; Heap.lt_size e
 have hns₂ : h₁.Ns H2.objs.size fun _=>none:=by
  have e : (fun x=>([] : List (Str × Value)).reverse.lookup x) = fun _=>none:=rfl
  rw [e] at hns₁
  exact hns₁
 obtain ⟨W,⟨m0,w0⟩,turn⟩:=rd
 generalize hDD : s.heap.objs.size = D at *
 generalize hCC : H2.objs.size = C at *
 have Dle : s.heap.objs.size <= D:=Nat.le_of_eq hDD
 have loop : ∀ s₃ : Shared,s₃ = { s with heap:=h₁,toks:=s.toks + ([] : List (Str × Value)).length } ->
   codeAny (model X.prog X.w) X.A (.compLoop (.ListComp elt [⟨.Name x px,iter,ifs,0⟩] scope pos) 0 (.ref it) (.ref D) (compEnvC scope cl C X.env)) (RR (.ref D) C) s₃:=by
  rintro s₃ rfl
  have I0 : Inv (compCx X x scope cl C fp s H) [] (σ ++ [none]) H { s with heap:=h₁,toks:=s.toks + ([] : List (Str × Value)).length } :=
   comp_inv I ok c1 c2 hf (by rw [hDD]; exact hCle) hns₂ old rfl rfl (fun b hb=>by rw [hDD]; exact hfs b hb)
  have cellD : ∀ y c,cl.lookup y = some c -> c ≠ D:=fun y c e z=>by
   obtain ⟨v,q⟩:=I.cell y c (c1 y c e)
   exact absurd q.lt (by rw [z,<- hDD]; exact Nat.lt_irrefl _)
  have stat : ∀ {H' : Hp} {pl : List (Addr × Obj)},(∀ p ∈ pl,p.1 = D) -> (∀ b ∈ fp,H' b = none) -> ∀ b ∈ fp,FpOk (compCx X x scope cl C fp s H) pl H' b:=fun {H' pl} hpl hn b hb =>
   ⟨hn b hb,(below b (hfs b hb)).1,fun hb2=>by
    have hb2 : b ∈ frs X.stack:=hb2
    rcases List.mem_cons.mp (I.stkSub b hb2) with z | z
    ·exact (hf b hb).2.1 z
    ·exact (hf b hb).2.2.1 z,.inl hb,fun y c e=>(hf b hb).2.2.2.2.1 y c (c1 y c e),fun p hp=>by
     have hp : p ∈ [] ++ pl:=hp
     rw [hpl p (by simpa using hp)]
     exact Ne.symm (below b (hfs b hb)).2⟩
  have pinD : ∀ {σ' : St} {H' : Hp} {s' : Shared} {its : List Value} {c : Nat},Inv (compCx X x scope cl C fp s H) [] σ' H' s' -> s'.heap.get? D = some (listAt its c) -> H' D = none -> Inv (compCx X x scope cl C fp s H) [(D,listAt its c)] σ' H' s':=fun {σ' H' s' its c} I' e n =>
   I'.pins_of fun p hp=>by
    have hp : p = (D,listAt its c):=by simpa using hp
    subst hp
    refine ⟨e,n,hDC,fun hb2=>?_,fun v z=>by cases z⟩
    have hb2 : D ∈ frs X.stack:=hb2
    rcases List.mem_cons.mp (I.stkSub D hb2) with z | z
    ·exact absurd I.lt (by rw [<- z,<- hDD]; exact Nat.lt_irrefl _)
    ·exact I.nofs Dle z
  refine codeAny_compLoop_tests (fun n s'=>∃ i v H' ys its c,Inv (compCx X x scope cl C fp s H) [] (σ ++ [v]) H' s' /\ tn i s'.heap /\ (∀ b ∈ fp,H' b = none) /\ s'.heap.get? D = some (listAt its c) /\ H' D = none /\ Vals ys its /\ ys.length <= sizeLine /\ W i n ys H')
   ?_ m0 ⟨0,none,H,[],[],0,I0,T.keep 0 _ _ st fun b _ o e=>old b o e,fun b hb=>(hf b hb).1,hD,I.hok.fresh Dle,.nil,Nat.zero_le _,w0⟩
  rintro n s' ⟨i,v,H',ys,its,c,I1,st1,fr1,e1,n1,r1,z1,w1⟩
  have I1p:=pinD I1 e1 n1
  have fok1:=stat (H':=H') (pl:=[(D,listAt its c)]) (fun p hp=>by simp at hp; rw [hp]) fr1
  rcases turn i n ys H' w1 with ⟨stop,qf⟩ | ⟨go,step⟩
  ·refine thn (T.done (compCx X x scope cl C fp s H) rfl rfl rfl hcalm i _ s' _ H' _ I1p fok1 st1 stop) fun r s2 ⟨hr,I2⟩=>?_
   subst hr
   obtain ⟨e2,n2,_⟩:=I2.pin (D,listAt its c) (List.mem_append_right _ (by simp))
   have u2 : Un (frs X.stack) fp H H' s.heap s2.heap:=I2.base
   have neD : ∀ b o,s.heap.get? b = some o -> b ≠ D:=fun b o e=>(below b (by rw [<- hDD]; exact Heap.lt_size e)).2
   have tD : ∀ b o,H' b = some o -> b ≠ D:=fun b o e z=>by rw [z,n1] at e; cases e
   have hok2 : HOk X.prog X.w (upd H' D (.lst ys)) s2.heap:=fun b o e=>by
    by_cases hb : b = D
    ·subst hb
     rw [upd_same] at e
     cases e
     exact ⟨z1,its,c,r1,e2⟩
    ·rw [upd_ne hb] at e
     exact (I2.hok b o e).stay (fun _ _ _ q=>q) (fun d q=>by rw [upd_ne (tD d _ q)]; exact q) fun d xs q=>by rw [upd_ne (tD d _ q)]; exact q
   have I3 : Inv X pins σ (upd H' D (.lst ys)) s2:=I.call' (ch:=fp) (show s2.os = s.os from I2.os)
    ⟨u2.keep,u2.slot,fun b o e n hx=>by rw [upd_ne (neD b o e)]; exact u2.free b o e n hx,u2.there,fun b xs e=>by
     have q:=u2.tups b xs e
     rw [upd_ne (tD b _ q)]; exact q,fun b o u e=>by
     have q:=u2.frzs b o u e
     rw [upd_ne (tD b _ q)]; exact q,fun b ps e=>by
     obtain ⟨more,q⟩:=u2.tbls b ps e
     exact ⟨more,by rw [upd_ne (tD b _ q)]; exact q⟩⟩ hok2 I2.bare (fun b hb=>⟨(hf b hb).2.2.2.1,(hf b hb).2.1,(hf b hb).2.2.2.2.1,(hf b hb).2.2.2.2.2⟩)
   obtain ⟨m2,hm2,_⟩:=I2.loc
   exact hR D C ys H' s2 n1 qf I3 ⟨m2,hm2⟩ (I.fpOk (by rw [hDD]; exact hCle) (by rw [upd_ne (Ne.symm hDC)]; exact I2.free))
  ·refine thn (T.item (compCx X x scope cl C fp s H) rfl rfl rfl hcalm i _ s' _ H' _ I1p fok1 st1 go) fun r s2 ⟨u,hr,h2⟩=>?_
   subst hr
   have ea : assign (.Name x px) (compEnvC scope cl C X.env) u = (letOwnedTupleGo (.Name x px) (.ref it) u >>= fun _=>assign (.Name x px) (compEnvC scope cl C X.env) u):=rfl
   show wpAny _ _ (assign (.Name x px) (compEnvC scope cl C X.env) u) _ _ s2
   rw [ea]
   refine wpAny_bind (thn h2 fun _ s3 ⟨y,H3,I3,ry,yl,st3,fr3⟩=>?_)
   obtain ⟨e3,n3,_⟩:=I3.pin (D,listAt its c) (List.mem_append_right _ (by simp))
   have I3p:=I3.pinned (stat (pl:=[(D,listAt its c)]) (fun p hp=>by simp at hp; rw [hp]) fr3) (T.obj _ _ st3)
   have hxl : (relabel scope X.env).names.lookup x = some .local:=lookup_relabel_local ok.own
   have hxi : (X.N ++ [x])[X.N.length]? = some x:=by rw [List.getElem?_append_right (Nat.le_refl _),Nat.sub_self] <;> rfl
   have hset : (σ ++ [v]).set X.N.length (some y) = σ ++ [some y]:=by
    rw [<- I.len,List.set_append_right _ _ (Nat.le_refl _),Nat.sub_self] <;> rfl
   refine thnF (pg_name (X:=compCx X x scope cl C fp s H) (i:=X.N.length) (x:=x) hN hxi (.inl hxl) (.inr hxl) _ s3 _ H3 y u (fun σ' H'=>σ' = σ ++ [some y] /\ H' = H3) I3p ry ⟨hset,rfl⟩) fun _ s4 ⟨σ4,H4,I4,hσ,hH⟩=>?_
   subst hσ hH
   have back : ∀ {H6 : Hp} {s6 : Shared} {its' : List Value} {c' : Nat},Inv (compCx X x scope cl C fp s H) (pinsAt fp s3.heap) (σ ++ [some y]) H6 s6 -> s6.heap.get? D = some (listAt its' c') -> H6 D = none -> ∀ {ys' : List V} {m' : Nat},Vals ys' its' -> ys'.length <= sizeLine -> m' < n -> W (i + 1) m' ys' H6 ->
     ∃ m,m < n /\ ∃ i v H' ys its c,Inv (compCx X x scope cl C fp s H) [] (σ ++ [v]) H' s6 /\ tn i s6.heap /\ (∀ b ∈ fp,H' b = none) /\ s6.heap.get? D = some (listAt its c) /\ H' D = none /\ Vals ys its /\ ys.length <= sizeLine /\ W i m ys H' :=
    fun {H6 s6 its' c'} I6 e6 n6 {ys' m'} r6 z6 lt6 w6=>by
     refine ⟨m',lt6,i + 1,some y,H6,ys',its',c',I6.pins_of (fun p hp=>by simp at hp),T.keep _ _ _ st3 fun b hb o e=>(I6.pin (b,o) (List.mem_append_right _ (mem_pinsAt hb e))).1,fun b hb=>?_,e6,n6,r6,z6,w6⟩
     obtain ⟨o,e,_⟩:=T.obj _ _ st3 b hb
     exact (I6.pin (b,o) (List.mem_append_right _ (mem_pinsAt hb e))).2.1
   refine thnF (ht C fp s H _ s4 _ H4 _ I4 (step y H4 yl)) fun b s5 ⟨H5,I5,q5⟩=>?_
   obtain ⟨e5,n5,_⟩:=I5.pin (D,listAt its c) (List.mem_append_right _ (by simp))
   cases b with
   | false =>
    obtain ⟨m',lt,w5⟩:=(show ∃ m',m' < n /\ W (i + 1) m' ys H5 from q5)
    exact back (I5.pins_of fun p hp=>I5.pin p (List.mem_append_right _ (List.mem_append_right _ hp))) e5 n5 r1 z1 lt w5
   | true =>
    refine thnF (he C fp s H _ s5 _ H5 _ I5 q5) fun yv s6 ⟨z,H6,I6,rz,hl6,m',lt,w6⟩=>?_
    obtain ⟨e6,n6,_⟩:=I6.pin (D,listAt its c) (List.mem_append_right _ (by simp))
    have hlen:=r1.length
    refine call_meets F.slot_list_append ⟨_,e6,rfl⟩ F.entry_list_append (F.args_list_append_2 _ _) (PySem.list_append D its.toArray c yv (by rw [List.size_toArray]; omega)) ⟨e6,?_⟩
    have q:=PySem.IsL.update e6 (·.push yv)
    have I6' : Inv (compCx X x scope cl C fp s H) (pinsAt fp s3.heap) (σ ++ [some y]) H6 s6:=I6.pins_of fun p hp=>I6.pin p (List.mem_append_right _ (List.mem_append_right _ hp))
    have I7 : Inv (compCx X x scope cl C fp s H) (pinsAt fp s3.heap) (σ ++ [some y]) H6 { s6 with heap:=s6.heap.update D (Obj.mapSeq (·.push yv)) } :=
     I6'.turned (it:=D) (t':=s6.toks) (fun b o hb e=>(Heap.get?_update_other s6.heap (Obj.mapSeq (·.push yv)) (Ne.symm hb)).trans e) n6 hDC (.inr Dle) (fun y c e=>cellD y c e) (fun p hp=>by
      have hp : p ∈ [] ++ pinsAt fp s3.heap:=hp
      obtain ⟨hb,_⟩:=of_pinsAt (show p ∈ pinsAt fp s3.heap by simpa using hp)
      exact (below _ (hfs _ hb)).2)
    exact back I7 (its':=its ++ [yv]) (by
     have q':=q
     simp only [List.push_toArray] at q'
     exact q') n6 (r1.append (.cons rz .nil)) (by rw [List.length_append,List.length_singleton]; omega) lt w6
 exact codeAny_compStart_list (loop _ rfl) (T.self X.A 0 _ _ _ (T.keep 0 _ _ st fun b _ o e=>old b o e) (loop _ rfl))
def tComp (wi : TI) (tt : TT) (te : TE) : TE:=fun σ H Q=>wi σ H fun J H1=>CompRd J tt te (fun ys H2=>∀ p,H2 p = none -> Q (.ref p) (upd H2 p (.lst ys))) σ H1
theorem pe_comp {elt iter : Expr} {x : Str} {px : Pos} {ifs : List Expr} {scope : Scope} {pos : Pos} {wi : TI} {tt : TT} {te : TE} (N : List Str) (fs : Scope) (hcalm : X.calm = true) (ok : compOk N fs scope x = true) (hN : (N ++ [x]).Nodup) (hi : PI X (.Name x px) iter wi)
  (ht : ∀ cl C fp s₀ H₀,PTs (compCx X x scope cl C fp s₀ H₀) ifs tt) (he : ∀ cl C fp s₀ H₀,PE (compCx X x scope cl C fp s₀ H₀) elt te)
  (hs : ∀ x,foldedSetIterable iter X.env x = pure x:=by intro _; rfl) (eN : X.N = N:=by rfl) (eS : X.env.scope = fs:=by rfl) : PE X (.ListComp elt [⟨.Name x px,iter,ifs,0⟩] scope pos) (tComp wi tt te):=by
 intro pins s σ H Q I h
 subst eN eS
 have ok:=CompOk.of ok
 obtain ⟨cl,hcl,c1,c2⟩:=closure_of (scope:=scope) (env:=X.env) fun y hy e=>I.ok.has y.1 (ok.free y hy e)
 rw [eval_ListComp]
 refine wpAny_comprehension_free (use:=none) rfl hs hcl ok.kind (fun y hy e=>(ok.locs y hy e).1) (thn (hi pins s σ H _ I h) fun v s1 h1=>thn h1 fun itv s2 h2=>?_)
 obtain ⟨it,fp,tn,J,H2,e,I2,T,st2,f2,rd⟩:=h2
 subst e
 refine comp_core (RR:=fun acc C=>compPost (model X.prog X.w) X.A X.xe none (EP X pins σ Q) acc C) I2 hcalm ok hN c1 c2 T st2 f2 (ht cl) (he cl) rd fun D C ys H' s' hD q I' hm fC=>?_
 obtain ⟨m,hm⟩:=hm
 refine ⟨m,hm,fun h' hs'=>⟨.ref D,_,I'.turned (t':=s'.toks) (fun b o hb e=>(hs'.2 b hb).trans e) fC.1 fC.2.1 fC.2.2.2.1 fC.2.2.2.2.1 fC.2.2.2.2.2,rfl,q D hD⟩⟩
end
end L2
namespace L2
open PySem PySem.Spec PyProof.Rows
abbrev one (c : Nat) : Str:=⟨#[c]⟩
def Its (x : Str) : It:=⟨fun i _=>i < x.length,fun i H v H'=>H' = H /\ ∃ c,x.cps.toList[i]? = some c /\ v = .str (one c),fun i _=>x.length <= i⟩
theorem turn_str {P : Program} {w : World} {K : PySem.W.Frag} {tg : Expr} (it : Addr) (ty : String) (x : Str) (t : Tok) (hW : ∀ A' : Around,A'.handled = none -> Walks P w A' it [it] [it] x.cps.size (SignAt x) (fun i h=>h.IsStrIter it ty x t i))
  (hn : ["enumerate","zip","dict_itemiterator","dict_reverseitemiterator","odict_iterator","itertools.zip_longest","itertools.pairwise"].contains ty = false)
  (hself : ∀ (A : Around) (i : Nat) (s : Shared) (Q : Value -> Shared -> Prop) (E : Value -> Shared -> Prop),s.heap.IsStrIter it ty x t i -> Q (.ref it) s -> wpAny (model P w) A (pyIter (.ref it)) Q E s) :
  Turn P w K tg (Its x) [it] it (fun i h=>h.IsStrIter it ty x t i /\ i <= x.length) where
 mem:=by simp
 obj:=fun i h st b hb=>by
  have e : b = it:=by simpa using hb
  subst e
  obtain ⟨⟨o,e,c,d⟩,_⟩:=st
  exact ⟨o,e,fun v z=>by rw [d] at z; cases z⟩
 keep:=fun i h h' st k=>by
  obtain ⟨⟨o,e,c,d⟩,l⟩:=st
  exact ⟨⟨o,k it (by simp) o e,c,d⟩,l⟩
 item:=by
  intro X hP hw hK hc i pins s σ H E I hf st hg
  subst hP hw hK
  obtain ⟨f0,f1,f2,f3,f4,f5⟩:=hf it (by simp)
  have hg : i < x.length:=hg
  refine (hW X.A (I.ok.hd hc)).item i s _ _ hg st.1 fun v h' tk hv st' kk=>?_
  obtain ⟨c,u,hx,rfl⟩:=hv
  have I1 : Inv X pins σ H { s with heap:=h',toks:=tk }:=I.turned (fun b o hb e=>kk b o (by simpa using hb) e) f0 f1 f3 f4 f5
  obtain ⟨o,e,hcl,hd⟩:=id st'
  refine ⟨_,rfl,go_of (s:={ s with heap:=h',toks:=tk }) e hcl hd hn ⟨.str (one c),H,I1,⟨u,rfl⟩,⟨rfl,c,by simpa using hx,rfl⟩,⟨st',hg⟩,fun b hb=>(hf b hb).1⟩⟩
 done:=by
  intro X hP hw hK hc i pins s σ H E I hf st hg
  subst hP hw hK
  obtain ⟨f0,f1,f2,f3,f4,f5⟩:=hf it (by simp)
  have e : i = x.cps.size:=Nat.le_antisymm st.2 hg
  subst e
  exact (hW X.A (I.ok.hd hc)).done s _ _ st.1 fun h' tk kk=>⟨rfl,I.turned (fun b o hb e=>kk b o (by simpa using hb) e) f0 f1 f3 f4 f5⟩
 self:=fun A i s Q E st h=>hself A i s Q E st.1 h
section
variable {X : Cx} {tg : Expr}
def iStr (te : TE) : TI:=fun σ H R=>te σ H fun v H1=>∃ x,v = .str x /\ R (Its x) H1
theorem pi_str {e : Expr} {te : TE} (he : PE X e te) : PI X tg e (iStr te):=by
 intro pins s σ H R I h
 refine thn (he pins s σ H _ I h) fun v s1 ⟨y,H1,I1,r1,q1⟩=>?_
 obtain ⟨x,rfl,q⟩:=q1
 obtain ⟨t,rfl⟩:=r1
 have fok : ∀ b ∈ [s1.heap.objs.size],FpOk X pins H1 b:=fun b hb=>by
  have e : b = s1.heap.objs.size:=by simpa using hb
  subst e
  exact I1.fpOk (Nat.le_refl _) (I1.hok.fresh (Nat.le_refl _))
 cases ha : x.cps.all (· < 128)
 ·refine wpAny_pyIter_wide ha ?_
  exact ⟨s1.heap.objs.size,[s1.heap.objs.size],_,_,H1,rfl,I1.kept (t':=s1.toks) fun b o e=>Heap.get?_push_of_some _ e,
   turn_str _ "str_iterator" x t (fun A' hA=>Walks.strWide hA _ x t) (by decide) (fun A i s Q E st h=>wpAny_pyIter_striter_wide st h),⟨⟨_,Heap.get?_push_size _ rfl,rfl,rfl⟩,Nat.zero_le _⟩,fok,q⟩
 ·refine wpAny_pyIter_ascii ha ?_
  exact ⟨s1.heap.objs.size,[s1.heap.objs.size],_,_,H1,rfl,I1.kept (t':=s1.toks) fun b o e=>Heap.get?_push_of_some _ e,
   turn_str _ "str_ascii_iterator" x t (fun A' hA=>Walks.strAscii hA _ x t) (by decide) (fun A i s Q E st h=>wpAny_pyIter_striter_ascii st h),⟨⟨_,Heap.get?_push_size _ rfl,rfl,rfl⟩,Nat.zero_le _⟩,fok,q⟩
end
theorem yes_rd {σ : St} {H : Hp} {Q : Bool -> Hp -> Prop} (q : Q true H) : tYes σ H Q:=q
theorem comprd_by {J : It} {te : TE} {fin : List V -> Hp -> Prop} {σ : St} {H : Hp} (ys : List V) (Pv : Nat -> Hp -> Prop) (hz : ys.length <= sizeLine) (h0 : Pv 0 H) (hgo : ∀ i H,i < ys.length -> Pv i H -> J.go i H) (hst : ∀ H,Pv ys.length H -> J.stop ys.length H)
  (step : ∀ i y H x H',ys[i]? = some y -> Pv i H -> J.yld i H x H' -> te (σ ++ [some x]) H' fun z H3=>z = y /\ Pv (i + 1) H3) (hd : ∀ H,Pv ys.length H -> fin ys H)
  (mono : ∀ σ H Q Q',(∀ v H1,Q v H1 -> Q' v H1) -> te σ H Q -> te σ H Q') : CompRd J tYes te fin σ H:=by
 refine ⟨fun i m zs H=>m = ys.length - i /\ i <= ys.length /\ zs = ys.take i /\ Pv i H,⟨_,rfl,Nat.zero_le _,by simp,h0⟩,?_⟩
 rintro i m zs H ⟨rfl,hi,rfl,p⟩
 by_cases hlt : i < ys.length
 ·refine .inr ⟨hgo i H hlt p,fun x H' y=>?_⟩
  refine yes_rd (iteT ?_)
  refine mono _ _ _ _ (fun v H1 q=>?_) (step i ys[i] H x H' (List.getElem?_eq_getElem hlt) p y)
  obtain ⟨e,p'⟩:=q
  refine ⟨by rw [List.length_take]; omega,ys.length - (i + 1),by omega,rfl,hlt,?_,p'⟩
  rw [List.take_add_one,List.getElem?_eq_getElem hlt,e] <;> rfl
 ·have e : i = ys.length:=by omega
  subst e
  refine .inl ⟨hst H p,?_⟩
  rw [List.take_length]
  exact hd H p
def cutC (x : Str) (lo hi : Option Int) : List Nat:=(x.cps.toList.drop (HT.sIx x.length 0 lo)).take (HT.sIx x.length x.length hi - HT.sIx x.length 0 lo)
theorem slice_cut (x : Str) (lo hi : Option Int) : Txt.slice x lo hi = ⟨(cutC x lo hi).toArray⟩:=by
 obtain ⟨h1,h2,h3⟩:=slice_bounds lo hi x.length
 have hle : HT.sIx x.length x.length hi <= x.length:=HT.sIx_le _ _ (Nat.le_refl _) _
 have e1 : Builtin.Str.strSliceIndices lo hi 1 x.length = Builtin.Str.strSliceIndices (some ((HT.sIx x.length 0 lo : Nat) : Int)) (some ((HT.sIx x.length x.length hi : Nat) : Int)) 1 x.length:=by
  have hle0 : HT.sIx x.length 0 lo <= x.length:=HT.sIx_le _ _ (Nat.zero_le _) _
  have q : ∀ (o : Option Int) (d : Nat),d <= x.length -> (match o with | none=>(d : Int) | some i=>let i:=if i < 0 then i + (x.length : Int) else i; max 0 (min i (x.length : Int))) = ((HT.sIx x.length d o : Nat) : Int):=by
   intro o d hd
   cases o with
   | none=>rfl
   | some i =>
    simp only [HT.sIx]
    by_cases h : i < 0
    ·simp only [h,if_true] <;> omega
    ·simp only [h,if_false] <;> omega
  have ql:=q lo 0 (Nat.zero_le _)
  have qh:=q hi x.length (Nat.le_refl _)
  have ql':=q (some ((HT.sIx x.length 0 lo : Nat) : Int)) 0 (Nat.zero_le _)
  have qh':=q (some ((HT.sIx x.length x.length hi : Nat) : Int)) x.length (Nat.le_refl _)
  rw [HT.sIx_nat,Nat.min_eq_left hle0] at ql'
  rw [HT.sIx_nat,Nat.min_eq_left hle] at qh'
  unfold Builtin.Str.strSliceIndices
  simp only [show (1 : Int) > 0 by decide,if_true]
  simp only [] at ql qh ql' qh'
  first
   | (rw [ql',qh']; exact congrArg₂ (fun a b=>sliceRange a b 1) ql qh)
   | (congr 1 <;> first | exact ql.trans ql'.symm | exact qh.trans qh'.symm)
 by_cases hc : HT.sIx x.length 0 lo <= HT.sIx x.length x.length hi
 ·have e2:=StrLaws.sliceText_nat x hc hle
  unfold Txt.slice
  unfold StrLaws.sliceText at e2
  rw [e1]
  exact e2
 ·have e3 : Builtin.Str.strSliceIndices (some ((HT.sIx x.length 0 lo : Nat) : Int)) (some ((HT.sIx x.length x.length hi : Nat) : Int)) 1 x.length = []:=by
   have hle0 : HT.sIx x.length 0 lo <= x.length:=HT.sIx_le _ _ (Nat.zero_le _) _
   have a1 : ¬ (((HT.sIx x.length 0 lo : Nat) : Int) < 0):=by omega
   have a2 : ¬ (((HT.sIx x.length x.length hi : Nat) : Int) < 0):=by omega
   have b1 : max (0 : Int) (min ((HT.sIx x.length 0 lo : Nat) : Int) (x.length : Int)) = ((HT.sIx x.length 0 lo : Nat) : Int):=by omega
   have b2 : max (0 : Int) (min ((HT.sIx x.length x.length hi : Nat) : Int) (x.length : Int)) = ((HT.sIx x.length x.length hi : Nat) : Int):=by omega
   simp only [Builtin.Str.strSliceIndices,sliceRange,a1,a2,if_false,b1,b2,show ((1 : Int) > 0) = True from by simp,if_true]
   rw [if_neg (by omega)] <;> rfl
  unfold Txt.slice
  rw [e1,e3]
  have e4 : HT.sIx x.length x.length hi - HT.sIx x.length 0 lo = 0:=by omega
  unfold cutC
  rw [e4,List.take_zero]
  split
  ·rename_i h
   have h0 : x.length = 0:=by
    have h' : (0 : Nat) = x.length:=by simpa using h
    exact h'.symm
   have : x.cps = #[]:=Array.eq_empty_of_size_eq_zero h0
   cases x
   simp_all
  ·rfl
section
variable {X : Cx}
def rSlS : V -> Option Int -> Option Int -> Hp -> VK -> Prop:=fun x lo hi H Q=>∃ z,x = .str z /\ z.length <= sizeLine /\ Q (.str ⟨(cutC z lo hi).toArray⟩) H
theorem part_value {v : Value} {o : Option Int} (p : IsPart v o) : ∃ q,v = partValue q /\ q.map (·.1) = o:=by
 cases p with
 | none=>exact ⟨none,rfl,rfl⟩
 | int i t=>exact ⟨some (i,t),rfl,rfl⟩
theorem sl_str : SlR X rSlS:=by
 intro pins s σ H x v vl vu lo hi sl Q I rx hs pl pu h
 obtain ⟨z,rfl,hz,q⟩:=h
 obtain ⟨t,rfl⟩:=rx
 obtain ⟨ql,rfl,el⟩:=part_value pl
 obtain ⟨qu,rfl,eu⟩:=part_value pu
 refine ⟨"str",_,F.slot_str_getitem.lookup,typeIs_str _ _ _,?_⟩
 refine wpAny_getItem_str_slice (l:=ql) (u:=qu) (st:=none) hs rfl ?_
 have fin : ∀ t' k,EP X pins σ Q (.str (Txt.slice z lo hi) t') { s with toks:=k }:=fun t' k=>⟨.str ⟨(cutC z lo hi).toArray⟩,H,I.tok _,⟨t',by rw [slice_cut]⟩,q⟩
 unfold sliceMade slicePicked
 rw [el,eu]
 exact post_val_or_str ⟨Nat.le_trans (Txt.slice_le z lo hi) hz,fin⟩
theorem strsAre_of : ∀ {ys : List Str} {us : List Value},Vals (ys.map V.str) us -> StrsAre us ys:=by
 intro ys
 induction ys with
 | nil=>intro us r; cases r; exact .nil
 | cons y r ih =>
  intro us rr
  cases rr with
  | cons r1 r2 =>
   obtain ⟨t,rfl⟩:=r1
   exact .cons y t (ih r2)
def rJoin (K : PySem.W.Frag) : V -> List V -> Hp -> VK -> Prop:=fun x vs H Q=>∃ (z : Str) (l : Addr) (ys : List Str),x = .str z /\ vs = [.ref l] /\ (SqL K H l (ys.map V.str) ∨ SqT K H l (ys.map V.str)) /\ (ys.map (·.length)).sum + ys.length * z.length <= 16777216 /\ Q (.str (Str.join z ys)) H
theorem mt_join : MtR X "str.join" (rJoin X.K):=by
 intro pins s σ H x vs v us Q I rx rv h
 obtain ⟨z,l,ys,rfl,rfl,hq,hok,q⟩:=h
 obtain ⟨t,rfl⟩:=rx
 obtain ⟨u,rfl,ru⟩:=vals1 rv
 cases ru
 have fin : ∀ t' k,EP X pins σ Q (.str (Txt.join z ys) t') { s with toks:=k }:=fun t' k=>⟨.str (Str.join z ys),H,I.tok _,⟨t',by show Value.str (PySem.Builtin.Str.glued z ys) t' = _; rw [StrLaws.glued_eq_join]⟩,q⟩
 rcases hq with hq | hq
 ·obtain ⟨its,r,ht,hz⟩:=I.list hq
  exact join_list ht.isList (strsAre_of r) hok fin
 ·obtain ⟨its,r,ht,hz⟩:=I.tuple hq
  exact join_tuple ht (strsAre_of r) hok fin
theorem call_all_bools (hc : X.calm = true) : CallR X (.builtin "all") (fun xs H Q=>∃ (p : Addr) (bs : List Bool),xs = [.ref p] /\ H p = some (.lst (bs.map V.bl)) /\ Q (.bl (bs.all id)) H):=by
 intro pins s σ H xs us Q I r h
 obtain ⟨p,bs,rfl,hp,q⟩:=h
 obtain ⟨u,rfl,ru⟩:=vals1 r
 cases ru
 obtain ⟨its,rv,ht,hz⟩:=I.list (SqL.of (K:=X.K) hp)
 have hlen : its.length = bs.length:=by rw [<- rv.length,List.length_map]
 refine call_all_walk (wpAny_pyIter_list ht.isList ?_)
 have hne : p ≠ s.heap.objs.size:=Nat.ne_of_lt (I.hok.lt hp)
 refine ⟨s.heap.objs.size,_,_,_,_,_,fun i=>bs.getD i false,rfl,Walks.list (show X.A.in1.handled = none from I.ok.hd hc) _ p hne its.toArray,⟨⟨_,Heap.get?_push_size _ rfl,rfl,rfl⟩,?_⟩,?_,?_⟩
 ·obtain ⟨o,e,c⟩:=ht.isList
  exact ⟨o,Heap.get?_push_of_some _ e,c⟩
 ·intro i v s' Q' E' hv hq
  have hv : its[i]? = some v:=by simpa using hv
  have hi : i < its.length:=(List.getElem?_eq_some_iff.mp hv).1
  obtain ⟨w,hw,rw'⟩:=rv.get (i:=i) (x:=V.bl (bs.getD i false)) (by
   rw [List.getElem?_map,List.getElem?_eq_getElem (by omega),List.getD_eq_getElem?_getD,List.getElem?_eq_getElem (by omega)] <;> rfl)
  rw [hv] at hw
  cases hw
  cases rw'
  exact wpAny_truthy_bool hq
 ·intro h' tk hk
  have e : (List.range its.toArray.size).all (fun i=>bs.getD i false) = bs.all id:=by
   rw [List.size_toArray,hlen]
   rw [Bool.eq_iff_iff,List.all_eq_true,List.all_eq_true]
   constructor
   ·intro a b hb
    obtain ⟨i,hi,e⟩:=List.mem_iff_getElem.mp hb
    have:=a i (List.mem_range.mpr hi)
    rw [List.getD_eq_getElem?_getD,List.getElem?_eq_getElem hi,e] at this
    exact this
   ·intro a i hi
    have hi:=List.mem_range.mp hi
    rw [List.getD_eq_getElem?_getD,List.getElem?_eq_getElem hi]
    exact a _ (List.getElem_mem hi)
  rw [e]
  refine ⟨.bl _,H,I.kept (t':=tk) fun b o e=>hk b o ?_ (Heap.get?_push_of_some _ e),rfl,q⟩
  intro hb
  have : b = s.heap.objs.size:=by simpa using hb
  rw [this] at e
  exact absurd (Heap.lt_size e) (Nat.lt_irrefl _)
def clsV : V -> Option Value
 | .ty n=>some (.type n)
 | .ref a=>some (.ref a)
 | _=>none
def rIsi (K : PySem.W.Frag) : List V -> Hp -> VK -> Prop:=fun xs H Q=>∃ x c t cv b,xs = [x,c] /\ clsV c = some cv /\ TyOf K H x t /\ PySem.W.kitOne K t cv = some b /\ Q (.bl b) H
theorem call_isi : CallR X (.builtin "isinstance") (rIsi X.K):=by
 intro pins s σ H xs us Q I r h
 obtain ⟨x,c,t,cv,b,rfl,hc,ty,e,q⟩:=h
 obtain ⟨u,w',rfl,rx,rc⟩:=vals2 r
 have ec : w' = cv:=by
  cases c with
  | ty n=>cases hc; exact rc
  | ref a=>cases hc; exact rc
  | _=>cases hc
 subst ec
 exact isinst_ok I rx ty e fun tk=>⟨.bl b,H,I.tok _,rfl,q⟩
end
end L2
namespace L2
open PySem PySem.Spec PyProof.Rows
end L2
namespace L2
open PySem PySem.Spec PyProof.Rows
structure Def (P : Program) (w : World) (K : PySem.W.Frag) (mg : Str -> Option Value) (base : Heap) (CX : CXT) (k : Nat) (x : Str) (ps : List Str) (sp : Sp) : Prop where
 ex : ∃ (f : Addr) (fd : FuncData),FnOk P w K mg base CX k f fd ps sp /\ Binds K fd ps [] /\ PySem.W.keepIn K (.ref f) = true /\ mg x = some (.ref f)
theorem Def.mk' {P : Program} {w : World} {K : PySem.W.Frag} {mg : Str -> Option Value} {base : Heap} {CX : CXT} {k : Nat} {x : Str} {ps : List Str} {sp : Sp} {f : Addr} {fd : FuncData} (F : FnOk P w K mg base CX k f fd ps sp) (b : Binds K fd ps []) (kp : PySem.W.keepIn K (.ref f) = true) (m : mg x = some (.ref f)) :
  Def P w K mg base CX k x ps sp:=⟨f,fd,F,b,kp,m⟩
section
variable {X : Cx} {CX : CXT} {k : Nat} {x : Str} {ps : List Str} {sp : Sp} {E : XK} {p pos : Pos} {e : Expr} {es : List Expr} {t : TA}
theorem pe_defE (D : Def X.prog X.w X.K X.mg X.base CX k x ps sp) (hr : Room k X.A) (hx : Passes CX X E) (ha : PA X (e :: es) t) (hg : Gl X x:=by rfl) (hdb : (x == ("__debug__" : Str)) = false:=by decide)
  (he : starEach (e :: es) X.env = (false,eval e X.env) :: starEach es X.env:=by rfl) (hpl : (backTo pos (starEach es X.env)).any (·.1) = false:=by rfl) : PE X (.Call (.Name x p) (e :: es) [] pos) (tCall sp [] E t):=by
 obtain ⟨f,fd,F,b,kp,m⟩:=D.ex
 exact pe_call F hr hg m kp b .nil hx ha hdb he hpl
theorem pe_def (D : Def X.prog X.w X.K X.mg X.base CX0 k x ps sp) (hr : Room k X.A) (ha : PA X (e :: es) t) (hg : Gl X x:=by rfl) (hdb : (x == ("__debug__" : Str)) = false:=by decide)
  (he : starEach (e :: es) X.env = (false,eval e X.env) :: starEach es X.env:=by rfl) (hpl : (backTo pos (starEach es X.env)).any (·.1) = false:=by rfl) : PE X (.Call (.Name x p) (e :: es) [] pos) (tCall sp [] E0 t) :=
 pe_defE D hr pass0 ha hg hdb he hpl
end
end L2
namespace L2
open PySem PySem.Spec PyProof.Rows
structure Fly (P : Program) (w : World) (l : List Env) (H H' : Hp) (s s' : Shared) (e : Addr) (C : Value) : Prop where
 fl : ∃ B a0,Heap.FlyingW B l e C a0 s'.heap /\ HOk P w H' B /\ (∀ b o,s.heap.get? b = some o -> H b = none -> b ∉ frs l -> B.get? b = some o) /\ ∀ b o,s.heap.get? b = some o -> b ∉ frs l -> ∃ o',B.get? b = some o'
 os : s'.os = s.os
 bare : AllBare s'.gens
 slot : ∀ b o,s.heap.get? b = some o -> H b = none -> b ∈ frs l -> ∃ sl,s'.heap.get? b = some { o with slots:=sl }
 free : ∀ b o,s.heap.get? b = some o -> H b = none -> H' b = none
 tups : ∀ b xs,H b = some (.tup xs) -> H' b = some (.tup xs)
 frzs : ∀ b o u,H b = some (.frz o u) -> H' b = some (.frz o u)
 tbls : ∀ b ps,H b = some (.tbl ps) -> ∃ more,H' b = some (.tbl (ps ++ more))
 new : H' e = none /\ s.heap.get? e = none
def CXX (P : Program) (w : World) : CXT:=fun outer H s E ev s'=>∃ e C H',ev = .ref e /\ Fly P w outer H H' s s' e C /\ E C none H'
theorem Fly.there {P : Program} {w : World} {l : List Env} {H H' : Hp} {s s' : Shared} {e : Addr} {C : Value} (F : Fly P w l H H' s s' e C) (b : Addr) (o : Obj) (q : s.heap.get? b = some o) : ∃ o',s'.heap.get? b = some o':=by
 obtain ⟨B,a0,fl,_,_,c2⟩:=F.fl
 by_cases hb : b ∈ frs l
 ·obtain ⟨_,o',ho',_⟩:=fl.2.2.1.mem hb
  exact ⟨o',ho'⟩
 ·obtain ⟨o',r⟩:=c2 b o q hb
  exact ⟨o',fl.1 b o' r⟩
def Lies (X : Cx) (E : XK) : Prop:=∀ (pins : List (Addr × Obj)) (σ : St) (H : Hp) (s : Shared) (h' : Heap) (e : Addr) (C : Value) (vs : List Value),Inv X pins σ H s -> Heap.MadeExcOf s.heap h' e C vs -> E C none H -> X.xe (.ref e) { s with heap:=h' }
theorem frs_mem {l : List Env} {h base : Heap} (F : h.FunFrames base l) {b : Addr} (hb : b ∈ frs l) : ∃ o,h.get? b = some o /\ ∀ vs,o.data ≠ .fields vs:=by
 obtain ⟨_,o,ho,hd⟩:=F.mem hb
 exact ⟨o,ho,hd⟩
section
variable {P : Program} {w : World} {K : PySem.W.Frag} {mg : Str -> Option Value} {base : Heap} {N : List Str} {qual : Str} {scope : Scope} {f : Addr} {cd : Value} {A : Around} {outer : List Env} {s₀ : Shared} {H₀ : Hp} {E : XK}
theorem lies_def : Lies (cxOf (CXX P w) P w K mg base N qual scope f cd A outer s₀ H₀ E) E:=by
 intro pins σ H s h' e C vs I hx hE
 show wpAny (model P w) (A.deeper (envOfC qual scope s₀.heap.objs.size f cd)) (leaving (envOfC qual scope s₀.heap.objs.size f cd) (.ref e)) _ _ { s with heap:=h' }
 have stack:=I.stack
 have hL : ∀ b o,s₀.heap.get? b = some o -> b ≠ s₀.heap.objs.size:=fun b o q=>Nat.ne_of_lt (Heap.lt_size q)
 have out : ∀ b,b ∈ frs (envOfC qual scope s₀.heap.objs.size f cd :: outer) -> b = s₀.heap.objs.size ∨ b ∈ frs outer:=fun b hb=>by
  obtain ⟨ev,he,hf⟩:=List.mem_filterMap.mp hb
  rcases List.mem_cons.mp he with z | z
  ·subst z
   exact .inl (Option.some.inj hf).symm
  ·exact .inr (List.mem_filterMap.mpr ⟨ev,z,hf⟩)
 have noE : ∀ b o,s.heap.get? b = some o -> b ≠ e:=fun b o q z=>by
  rw [z,hx.new] at q
  cases q
 refine wpAny_leaves_madeW (base:=PySem.W.hideAll s.heap (frs (envOfC qual scope s₀.heap.objs.size f cd :: outer))) (h:=s.heap) I.ok.frames rfl (fun b o q=>PySem.W.of_hideAll _ q)
  (PySem.W.funFrames_hide stack fun ev he b hb=>List.mem_filterMap.mpr ⟨ev,he,hb⟩) hx fun h2 t hfl htup htn up=>?_
 have stay : ∀ b o,s.heap.get? b = some o -> b ∉ frs (envOfC qual scope s₀.heap.objs.size f cd :: outer) -> (PySem.W.hideAll s.heap (frs (envOfC qual scope s₀.heap.objs.size f cd :: outer))).get? b = some o:=fun b o q n=>PySem.W.hideAll_get _ q n
 have notIn : ∀ b o,s₀.heap.get? b = some o -> b ∉ frs outer -> b ∉ frs (envOfC qual scope s₀.heap.objs.size f cd :: outer):=fun b o q n z=>by
  rcases out b z with y | y
  ·exact hL b o q y
  ·exact n y
 have upF : ∀ b o,s.heap.get? b = some o -> b ∈ frs (envOfC qual scope s₀.heap.objs.size f cd :: outer) -> ∃ sl,h2.get? b = some { o with slots:=sl }:=fun b o q hb=>by
  obtain ⟨o',ho',hd⟩:=frs_mem stack hb
  rw [q] at ho'
  cases ho'
  exact up b o (hx.keeps b o q) hd
 refine ⟨e,C,H,rfl,⟨⟨_,_,hfl,?_,fun b o q n nf=>?_,fun b o q nf=>?_⟩,I.os,I.bare,fun b o q n hf=>?_,fun b o q n=>?_,I.base.tups,I.base.frzs,I.base.tbls,?_,?_⟩,hE⟩
 ·intro b o q
  refine (I.hok b o q).stay (fun c u hc r=>stay c u r fun z=>?_) (fun _ r=>r) fun _ _ r=>r
  have n:=I.stkFree c z
  rcases hc with y | y
  ·rw [y] at n
   rw [n] at q
   cases q
  ·rw [n] at y
   cases y
 ·exact stay b o (I.base.keep b o q n nf (by simp [cxOf])) (notIn b o q nf)
 ·obtain ⟨o',r⟩:=I.base.there b o q (by simp [cxOf])
  exact ⟨o',stay b o' r (notIn b o q nf)⟩
 ·obtain ⟨sl,r⟩:=I.base.slot b o q n hf (by simp [cxOf])
  obtain ⟨sl',r'⟩:=upF b _ r (List.mem_filterMap.mpr (by
   obtain ⟨ev,he,hb⟩:=List.mem_filterMap.mp hf
   exact ⟨ev,List.mem_cons_of_mem _ he,hb⟩))
  exact ⟨sl',r'⟩
 ·exact I.base.free b o q n (by simp [cxOf])
 ·cases q : H e with
  | none=>rfl
  | some u =>
   have z:=I.hok.lt q
   have y:=hx.new
   obtain ⟨ob,r⟩ : ∃ ob,s.heap.get? e = some ob:=by
    obtain ⟨o',r,_⟩ : ∃ o',s.heap.get? e = some o' /\ True:=by
     have k:=(I.hok e u q)
     cases u with
     | lst xs=>obtain ⟨_,_,_,_,r⟩:=k; exact ⟨_,r,trivial⟩
     | tup xs=>obtain ⟨_,_,_,ob,r,_⟩:=k; exact ⟨_,r,trivial⟩
     | dK kvs=>obtain ⟨_,_,_,_,ob,_,_,r,_⟩:=k; exact ⟨_,r,trivial⟩
     | dT kvs=>obtain ⟨_,_,_,_,ob,_,_,r,_⟩:=k; exact ⟨_,r,trivial⟩
     | set S n=>obtain ⟨ob,_,_,_,r,_⟩:=k; exact ⟨_,r,trivial⟩
     | ins C dx fs=>obtain ⟨_,_,_,r,_⟩:=k; exact ⟨_,r,trivial⟩
     | own y=>obtain ⟨ob,r⟩:=k; exact ⟨_,r,trivial⟩
     | xd fs=>obtain ⟨_,⟨_,_,_,r,_⟩,_⟩:=k; exact ⟨_,r,trivial⟩
     | rng lo hi=>obtain ⟨_,_,_,r⟩:=k; exact ⟨_,r,trivial⟩
     | frz ob u=>obtain ⟨r,_⟩:=k; exact ⟨_,r,trivial⟩
     | tbl ps=>exact ⟨_,k,trivial⟩
     | met f y=>exact ⟨_,k,trivial⟩
     | ext φ=>obtain ⟨_,⟨_,r⟩,_⟩:=k; exact ⟨_,r,trivial⟩
    exact ⟨o',r⟩
   rw [y] at r
   cases r
 ·cases q : s₀.heap.get? e with
  | none=>rfl
  | some o =>
   obtain ⟨o',r⟩:=I.base.there e o q (by simp [cxOf])
   exact absurd rfl (noE e o' r)
theorem passes_def {E1 : XK} (hE : ∀ C d H,E1 C d H -> E C d H) : Passes (CXX P w) (cxOf (CXX P w) P w K mg base N qual scope f cd A outer s₀ H₀ E) E1:=by
 intro pins σ H s ev s' I hx
 obtain ⟨e,C,H',rfl,F,q⟩:=hx
 have hL : ∀ b o,s₀.heap.get? b = some o -> b ≠ s₀.heap.objs.size:=fun b o q=>Nat.ne_of_lt (Heap.lt_size q)
 have F : Fly P w (envOfC qual scope s₀.heap.objs.size f cd :: outer) H H' s s' e C:=F
 obtain ⟨B,a0,fl,okB,cov,cov2⟩:=F.fl
 have into : ∀ b,b ∈ frs outer -> b ∈ frs (envOfC qual scope s₀.heap.objs.size f cd :: outer):=fun b hb=>by
  obtain ⟨ev,he,hf⟩:=List.mem_filterMap.mp hb
  exact List.mem_filterMap.mpr ⟨ev,List.mem_cons_of_mem _ he,hf⟩
 have notIn : ∀ b o,s₀.heap.get? b = some o -> b ∉ frs outer -> b ∉ frs (envOfC qual scope s₀.heap.objs.size f cd :: outer):=fun b o q n z=>by
  obtain ⟨ev,he,hf⟩:=List.mem_filterMap.mp z
  rcases List.mem_cons.mp he with y | y
  ·subst y
   exact hL b o q (Option.some.inj hf).symm
  ·exact n (List.mem_filterMap.mpr ⟨ev,y,hf⟩)
 show wpAny (model P w) (A.deeper (envOfC qual scope s₀.heap.objs.size f cd)) (leaving (envOfC qual scope s₀.heap.objs.size f cd) (.ref e)) _ _ s'
 refine wpAny_leaves_onW (outer:=outer) I.ok.frames rfl fl fun h2 fl2 up=>?_
 have upF : ∀ b o,s'.heap.get? b = some o -> b ∈ frs (envOfC qual scope s₀.heap.objs.size f cd :: outer) -> ∃ sl,h2.get? b = some { o with slots:=sl }:=fun b o q hb=>by
  obtain ⟨o',ho',hd⟩:=frs_mem fl.2.2.1 hb
  rw [q] at ho'
  cases ho'
  exact up b o q hd
 refine ⟨e,C,H',rfl,⟨⟨B,a0,fl2,okB,fun b o q n nf=>?_,fun b o q nf=>?_⟩,F.os.trans I.os,F.bare,fun b o q n hf=>?_,fun b o q n=>?_,fun b xs r=>F.tups b xs (I.base.tups b xs r),fun b o u r=>F.frzs b o u (I.base.frzs b o u r),fun b ps r=>?_,F.new.1,?_⟩,hE C none H' q⟩
 ·exact cov b o (I.base.keep b o q n nf (by simp [cxOf])) (I.base.free b o q n (by simp [cxOf])) (notIn b o q nf)
 ·obtain ⟨o',r⟩:=I.base.there b o q (by simp [cxOf])
  exact cov2 b o' r (notIn b o q nf)
 ·obtain ⟨sl,r⟩:=I.base.slot b o q n hf (by simp [cxOf])
  obtain ⟨sl1,r1⟩:=F.slot b _ r (I.base.free b o q n (by simp [cxOf])) (into b hf)
  obtain ⟨sl2,r2⟩:=upF b _ r1 (into b hf)
  exact ⟨sl2,r2⟩
 ·obtain ⟨o',r⟩:=I.base.there b o q (by simp [cxOf])
  exact F.free b o' r (I.base.free b o q n (by simp [cxOf]))
 ·obtain ⟨m1,r1⟩:=I.base.tbls b ps r
  obtain ⟨m2,r2⟩:=F.tbls b _ r1
  exact ⟨m1 ++ m2,by rw [r2,Array.append_assoc]⟩
 ·cases z : s₀.heap.get? e with
  | none=>rfl
  | some o =>
   obtain ⟨o',r⟩:=I.base.there e o z (by simp [cxOf])
   rw [F.new.2] at r
   cases r
end
end L2
namespace L2
open PySem PySem.Spec PyProof.Rows
abbrev Cx.inTry (X : Cx) (pn : List (Addr × Obj)) (E : Value -> Shared -> Prop) : Cx:={ X with pn:=pn,xe:=E }
abbrev Cx.inSuite (X : Cx) (e : Addr) : Cx:={ X with A:=X.A.mark (some (.ref e)),calm:=false,xe:=fun _ _=>False }
section
variable {X : Cx} {pins : List (Addr × Obj)} {σ : St} {H : Hp} {s : Shared}
theorem Cx.Ok.inTry (ok : X.Ok) (pn : List (Addr × Obj)) (E : Value -> Shared -> Prop) : (X.inTry pn E).Ok :=
 ⟨ok.mod,ok.kind,ok.glob,ok.blt,ok.above,ok.inj,ok.has,ok.cab,ok.hd,ok.frames,ok.stk,ok.exf,ok.bs,ok.bsz,ok.noex,ok.exfs,ok.funs,ok.frf⟩
theorem Cx.Ok.inSuite (ok : X.Ok) (e : Addr) : (X.inSuite e).Ok :=
 ⟨ok.mod,ok.kind,ok.glob,ok.blt,ok.above,ok.inj,ok.has,ok.cab,fun z=>absurd (show false = true from z) (by decide),ok.frames,ok.stk,ok.exf,ok.bs,ok.bsz,ok.noex,ok.exfs,ok.funs,ok.frf⟩
theorem Inv.inTry (I : Inv X pins σ H s) (E : Value -> Shared -> Prop) : Inv (X.inTry (X.pn ++ pins) E) [] σ H s :=
 ⟨I.ok.inTry _ _,I.os,I.bare,I.base,I.loc,I.cell,I.free,I.freeC,fun p hp=>I.pin p (by simpa using hp),I.hok,I.len⟩
theorem Inv.ofTry {pn ps : List (Addr × Obj)} {E : Value -> Shared -> Prop} (ok : X.Ok) (I : Inv (X.inTry (X.pn ++ pn) E) ps σ H s) : Inv X pn σ H s :=
 ⟨ok,I.os,I.bare,I.base,I.loc,I.cell,I.free,I.freeC,fun p hp=>I.pin p (List.mem_append_left _ hp),I.hok,I.len⟩
theorem Inv.inSuite (I : Inv X pins σ H s) (e : Addr) : Inv (X.inSuite e) pins σ H s :=
 ⟨I.ok.inSuite e,I.os,I.bare,I.base,I.loc,I.cell,I.free,I.freeC,I.pin,I.hok,I.len⟩
theorem Inv.ofSuite {e : Addr} (ok : X.Ok) (I : Inv (X.inSuite e) pins σ H s) : Inv X pins σ H s :=
 ⟨ok,I.os,I.bare,I.base,I.loc,I.cell,I.free,I.freeC,I.pin,I.hok,I.len⟩
theorem Inv.land {H' : Hp} {s' : Shared} {e : Addr} {C a0 : Value} {B h3 : Heap} {t' : Nat} (I : Inv X pins σ H s) (F : Fly X.prog X.w X.stack H H' s s' e C) (fl : Heap.FlyingW B X.stack e C a0 s'.heap) (okB : HOk X.prog X.w H' B)
  (c1 : ∀ b o,s.heap.get? b = some o -> H b = none -> b ∉ frs X.stack -> B.get? b = some o) (c2 : ∀ b o,s.heap.get? b = some o -> b ∉ frs X.stack -> ∃ o',B.get? b = some o') (st : B.StaysIn h3) (up : s'.heap.UpToSlots h3) :
  Inv X pins σ H' { s' with heap:=h3,toks:=t' }:=by
 have upF : ∀ b o,s'.heap.get? b = some o -> b ∈ frs X.stack -> ∃ sl,h3.get? b = some { o with slots:=sl }:=fun b o q hb=>by
  obtain ⟨o',ho',hd⟩:=frs_mem fl.2.2.1 hb
  rw [q] at ho'
  cases ho'
  exact up b o q hd
 refine I.call' (s':={ s' with heap:=h3,toks:=t' }) (ch:=[]) F.os ⟨fun b o q n hb _=>st b o (c1 b o q n hb),fun b o q n hb _=>?_,fun b o q n _=>F.free b o q n,fun b o q _=>?_,F.tups,F.frzs,F.tbls⟩ (okB.kept st) F.bare (fun _ z=>nomatch z)
 ·obtain ⟨sl,r⟩:=F.slot b o q n hb
  obtain ⟨sl2,r2⟩:=upF b _ r hb
  exact ⟨sl2,r2⟩
 ·by_cases hb : b ∈ frs X.stack
  ·obtain ⟨o',ho',hd⟩:=frs_mem fl.2.2.1 hb
   obtain ⟨sl,r⟩:=up b o' ho' hd
   exact ⟨_,r⟩
  ·obtain ⟨o',r⟩:=c2 b o q hb
   exact ⟨o',st b o' r⟩
theorem SP.ofSuite {e : Addr} {D : Ends} {f : Flow} (ok : X.Ok) (q : SP (X.inSuite e) pins D f s) : SP X pins D f s:=by
 cases f with
 | next=>obtain ⟨σ1,H1,J,q⟩:=q; exact ⟨σ1,H1,Inv.ofSuite ok J,q⟩
 | brk=>obtain ⟨σ1,H1,J,q⟩:=q; exact ⟨σ1,H1,Inv.ofSuite ok J,q⟩
 | cont=>obtain ⟨σ1,H1,J,q⟩:=q; exact ⟨σ1,H1,Inv.ofSuite ok J,q⟩
 | ret u=>obtain ⟨v,σ1,H1,J,r,q⟩:=q; exact ⟨v,σ1,H1,Inv.ofSuite ok J,r,q⟩
theorem SP.ofTry {pn : List (Addr × Obj)} {E : Value -> Shared -> Prop} {D : Ends} {f : Flow} (ok : X.Ok) (q : SP (X.inTry (X.pn ++ pn) E) [] D f s) : SP X pn D f s:=by
 cases f with
 | next=>obtain ⟨σ1,H1,J,q⟩:=q; exact ⟨σ1,H1,Inv.ofTry ok J,q⟩
 | brk=>obtain ⟨σ1,H1,J,q⟩:=q; exact ⟨σ1,H1,Inv.ofTry ok J,q⟩
 | cont=>obtain ⟨σ1,H1,J,q⟩:=q; exact ⟨σ1,H1,Inv.ofTry ok J,q⟩
 | ret u=>obtain ⟨v,σ1,H1,J,r,q⟩:=q; exact ⟨v,σ1,H1,Inv.ofTry ok J,r,q⟩
theorem looks_type {M : Model} {h : Heap} {e : Addr} {o : Obj} (q : h.get? e = some o) : PySem.W.Looks M h (typeOf (.ref e)) o.cls:=(PySem.W.Looks.ld q).andThen .now
def tTry (K : PySem.W.Frag) (n : Nat) (Ex : XK) (cv : Value) (tb ts : TS) : TS:=fun D σ H=>(∀ (C : Value) (d : Option Addr) (H' : Hp) (σ' : St),Ex C d H' -> σ'.length = n -> PySem.W.exmOne K C cv = some true /\ ts D σ' H') /\ tb D σ H
theorem ps_try {Ex : XK} {body suite : List Stmt} {b₀ : Stmt} {x : Str} {np hpos pos : Pos} {cv : Value} {tb ts : TS} (hstk : X.stack = X.env :: X.outer) (hfr : X.env.frame = some X.env.locals) (hg : Gl X x) (hm : X.mg x = some cv)
  (hb : ∀ pn E',Passes (CXX X.prog X.w) (X.inTry pn E') Ex -> PSs (X.inTry pn E') body tb) (hs : ∀ e,PSs (X.inSuite e) (b₀ :: suite) ts) (hd : (x == ("__debug__" : Str)) = false:=by decide) :
  PS X (.Try body [.ExceptHandler (some (.Name x np)) none (b₀ :: suite) hpos] [] [] pos) (tTry X.K X.N.length Ex cv tb ts):=by
 intro pins s σ H D I h
 obtain ⟨hh,ht⟩:=h
 refine wpAny_Try_except ?_
 have I1:=I.inTry (fun e s₁=>wpAny (model X.prog X.w) X.A (noteFrame e X.env) (fun _ s₂=>wpAny (model X.prog X.w) X.A (setFlight e none) (fun _ s₃=>wpAny (model X.prog X.w) X.A (handleBy e X.env [.ExceptHandler (some (.Name x np)) none (b₀ :: suite) hpos]) (SP X pins D) X.xe s₃) X.xe s₂) X.xe s₁)
 refine thn (hb _ _ ?_ [] s σ H D I1 ht) fun f s1 q=>?_
 ·intro pins' σ' H1 s1 ev s2 J hx
  obtain ⟨e,C,H2,rfl,F,q⟩:=hx
  have J' : Inv X pins σ' H1 s1:=Inv.ofTry I.ok J
  have F : Fly X.prog X.w X.stack H1 H2 s1 s2 e C:=F
  obtain ⟨B,a0,fl,okB,c1,c2⟩:=F.fl
  have fl':=fl
  rw [hstk] at fl'
  show wpAny (model X.prog X.w) X.A (noteFrame (.ref e) X.env) _ X.xe s2
  refine wpAny_looks_onW (by rw [I.ok.frames,hstk]) hfr fl' fun h3 held up3=>wpAny_landsW held fun h4 fl4 up4=>?_
  obtain ⟨hmt,hts⟩:=hh C none H2 σ' q J.len
  have I4 : Inv X pins σ' H2 { s2 with heap:=h4 }:=J'.land (t':=s2.toks) F fl okB c1 c2 fl4.1 (up3.trans up4)
  obtain ⟨ob,hob,hoc⟩:=fl4.there
  refine wpAny_handleBy_cons (codeAny_handlers_test (ld_glob (I4.inSuite e) hg hm ?_ hd)) (by intro z; cases z)
  refine (PySem.W.exm_one I4.kIn (cls:=C) (hoc ▸ looks_type hob) hmt).here ?_
  refine codeAny_handlers_suite ?_
  refine lands_againW fl4 fun h5 fl5 up5=>?_
  have I5 : Inv X pins σ' H2 { s2 with heap:=h5 }:=J'.land (t':=s2.toks) F fl okB c1 c2 fl5.1 ((up3.trans up4).trans up5)
  exact thnF (hs e pins _ σ' H2 D (I5.inSuite e) hts) fun f s6 q6=>SP.ofSuite I.ok q6
 ·have q' : SP X pins D f s1:=SP.ofTry I.ok q
  cases f with
  | next=>exact wpAny_execs_nil q'
  | brk=>exact q'
  | cont=>exact q'
  | ret u=>exact q'
end
end L2
namespace L2
open PySem PySem.Spec PyProof.Rows
structure EqOk {α : Type} [DecidableEq α] (X : Cx) (A : Around) (R : Hp -> α -> V -> Prop) : Prop where
 eq : ∀ (pins : List (Addr × Obj)) (σ : St) (H : Hp) (s : Shared),Inv X pins σ H s -> ∀ a b x y u v,R H a x -> R H b y -> RelV x u -> RelV y v -> SeqAt.EqAt A s u v (decide (a = b))
 fn : ∀ (pins : List (Addr × Obj)) (σ : St) (H : Hp) (s : Shared),Inv X pins σ H s -> ∀ a b x,R H a x -> R H b x -> a = b
def strR : Hp -> Str -> V -> Prop:=fun _ z v=>v = .str z
def tupR {α : Type} (K : PySem.W.Frag) (R : Hp -> α -> V -> Prop) : Hp -> List α -> V -> Prop:=fun H zs v=>∃ a xs,v = .ref a /\ SqT K H a xs /\ Paired (R H) zs xs
def lstR {α : Type} (K : PySem.W.Frag) (R : Hp -> α -> V -> Prop) : Hp -> List α -> V -> Prop:=fun H zs v=>∃ a xs,v = .ref a /\ SqL K H a xs /\ Paired (R H) zs xs
theorem paired_get {α β : Type} {F : α -> β -> Prop} : ∀ {l₁ : List α} {l₂ : List β} {i : Nat} {b : β},Paired F l₁ l₂ -> l₂[i]? = some b -> ∃ a,l₁[i]? = some a /\ F a b
 | _,_,_,_,.nil,e=>by simp at e
 | _,_,0,_,.cons h _,e=>by simp at e; subst e; exact ⟨_,rfl,h⟩
 | _,_,i + 1,b,.cons _ t,e=>by
  obtain ⟨a,h1,h2⟩:=paired_get (i:=i) (b:=b) t (by simpa using e)
  exact ⟨a,by simpa using h1,h2⟩
theorem paired_fn {α β : Type} {F : α -> β -> Prop} (hf : ∀ a b x,F a x -> F b x -> a = b) : ∀ {l l' : List α} {m : List β},Paired F l m -> Paired F l' m -> l = l'
 | _,_,_,.nil,.nil=>rfl
 | _,_,_,.cons h t,.cons h' t'=>by rw [hf _ _ _ h h',paired_fn hf t t']
theorem all_eq_items {α : Type} [DecidableEq α] (xs ys : List α) : ((List.range (min xs.length ys.length)).all (fun j=>decide (xs[j]? = ys[j]?)) && xs.length == ys.length) = decide (xs = ys):=by
 rw [Bool.eq_iff_iff]
 simp only [Bool.and_eq_true,List.all_eq_true,List.mem_range,decide_eq_true_eq,beq_iff_eq]
 constructor
 ·rintro ⟨h1,h2⟩
  refine List.ext_getElem? fun i=>?_
  by_cases hi : i < xs.length
  ·exact h1 i (by omega)
  ·rw [List.getElem?_eq_none (by omega),List.getElem?_eq_none (by omega)]
 ·rintro rfl
  exact ⟨fun _ _=>rfl,rfl⟩
theorem all_eq_same {α : Type} [DecidableEq α] (xs ys : List α) (h : xs.length = ys.length) : (List.range xs.length).all (fun j=>decide (xs[j]? = ys[j]?)) = decide (xs = ys):=by
 have q:=all_eq_items xs ys
 rw [h,Nat.min_self] at q
 rw [h]
 simpa using q
section
variable {X : Cx} {α : Type} [DecidableEq α] {R : Hp -> α -> V -> Prop}
theorem eqok_str {A : Around} : EqOk X A strR where
 eq:=fun pins σ H s I a b x y u v ra rb ru rv=>by
  cases ra
  cases rb
  obtain ⟨t,rfl⟩:=ru
  obtain ⟨t',rfl⟩:=rv
  exact SeqAt.EqAt.str_str a t b t'
 fn:=fun pins σ H s I a b x ra rb=>by
  rw [ra] at rb
  exact V.str.inj rb
theorem items_eq {A : Around} (h : EqOk X A R) {pins : List (Addr × Obj)} {σ : St} {H : Hp} {s : Shared} (I : Inv X pins σ H s) {zs ws : List α} {xs ys : List V} {its its2 : List Value} (r : Vals xs its) (r' : Vals ys its2) (p : Paired (R H) zs xs) (p' : Paired (R H) ws ys)
  (j : Nat) (h1 : j < its.toArray.size) (h2 : j < its2.toArray.size) : SeqAt.EqAt A s its.toArray[j] its2.toArray[j] (decide (zs[j]? = ws[j]?)):=by
 have l1 : j < its.length:=by simpa using h1
 have l2 : j < its2.length:=by simpa using h2
 have k1 : j < xs.length:=by rw [r.length]; exact l1
 have k2 : j < ys.length:=by rw [r'.length]; exact l2
 obtain ⟨u,hu,ru⟩:=r.get (List.getElem?_eq_getElem k1)
 obtain ⟨v,hv,rv⟩:=r'.get (List.getElem?_eq_getElem k2)
 obtain ⟨a,ha,ra⟩:=paired_get p (List.getElem?_eq_getElem k1)
 obtain ⟨b,hb,rb⟩:=paired_get p' (List.getElem?_eq_getElem k2)
 have e1 : its.toArray[j] = u:=by
  rw [List.getElem?_eq_getElem l1] at hu
  simpa using Option.some.inj hu
 have e2 : its2.toArray[j] = v:=by
  rw [List.getElem?_eq_getElem l2] at hv
  simpa using Option.some.inj hv
 have e3 : decide (zs[j]? = ws[j]?) = decide (a = b):=by
  rw [ha,hb]
  exact decide_eq_decide.mpr ⟨fun z=>Option.some.inj z,fun z=>by rw [z]⟩
 rw [e1,e2,e3]
 exact h.eq pins σ H s I a b _ _ u v ra rb ru rv
theorem rc_tup {A : Around} (h : EqOk X A.in1 R) (hu : A.units < cLine) {pins : List (Addr × Obj)} {σ : St} {H : Hp} {s : Shared} (I : Inv X pins σ H s) {zs ws : List α} {a b : Addr} {xs ys : List V} (q : SqT X.K H a xs) (q' : SqT X.K H b ys) (p : Paired (R H) zs xs) (p' : Paired (R H) ws ys) :
  SeqAt.RcAt A s (.ref a) (.ref b) (decide (zs = ws)) /\ SeqAt.RcNeAt A s (.ref a) (.ref b) (!decide (zs = ws)):=by
 obtain ⟨its,r,t,_⟩:=I.tuple q
 obtain ⟨its2,r',t',_⟩:=I.tuple q'
 have e : ((List.range (min its.toArray.size its2.toArray.size)).all (fun j=>decide (zs[j]? = ws[j]?)) && its.toArray.size == its2.toArray.size) = decide (zs = ws):=by
  have l1 : its.toArray.size = zs.length:=by rw [List.size_toArray,<- r.length,p.length]
  have l2 : its2.toArray.size = ws.length:=by rw [List.size_toArray,<- r'.length,p'.length]
  rw [l1,l2]
  exact all_eq_items zs ws
 have g1:=SeqAt.RcAt.tuples (A:=A) (s:=s) (l:=a) (b:=b) (e:=fun j=>decide (zs[j]? = ws[j]?)) t t' hu (fun j h1 h2=>items_eq h I r r' p p' j h1 h2)
 have g2:=SeqAt.RcNeAt.tuples (A:=A) (s:=s) (l:=a) (b:=b) (e:=fun j=>decide (zs[j]? = ws[j]?)) t t' hu (fun j h1 h2=>items_eq h I r r' p p' j h1 h2)
 rw [e] at g1 g2
 exact ⟨g1,g2⟩
theorem rc_lst {A : Around} (h : EqOk X A.in1 R) (hu : A.units < cLine) {pins : List (Addr × Obj)} {σ : St} {H : Hp} {s : Shared} (I : Inv X pins σ H s) {zs ws : List α} {a b : Addr} {xs ys : List V} (q : SqL X.K H a xs) (q' : SqL X.K H b ys) (p : Paired (R H) zs xs) (p' : Paired (R H) ws ys) :
  SeqAt.RcAt A s (.ref a) (.ref b) (decide (zs = ws)) /\ SeqAt.RcNeAt A s (.ref a) (.ref b) (!decide (zs = ws)):=by
 obtain ⟨its,r,t,_⟩:=I.list q
 obtain ⟨its2,r',t',_⟩:=I.list q'
 have l1 : its.toArray.size = zs.length:=by rw [List.size_toArray,<- r.length,p.length]
 have l2 : its2.toArray.size = ws.length:=by rw [List.size_toArray,<- r'.length,p'.length]
 by_cases hl : zs.length = ws.length
 ·have e : (List.range its.toArray.size).all (fun j=>decide (zs[j]? = ws[j]?)) = decide (zs = ws):=by
   rw [l1]
   exact all_eq_same zs ws hl
  have g1:=SeqAt.RcAt.lists (A:=A) (s:=s) (l:=a) (b:=b) (e:=fun j=>decide (zs[j]? = ws[j]?)) t.isList t'.isList (by rw [l1,l2,hl]) hu (fun j h1 h2=>items_eq h I r r' p p' j h1 h2)
  have g2:=SeqAt.RcNeAt.lists (A:=A) (s:=s) (l:=a) (b:=b) (e:=fun j=>decide (zs[j]? = ws[j]?)) t.isList t'.isList (by rw [l1,l2,hl]) hu (fun j h1 h2=>items_eq h I r r' p p' j h1 h2)
  rw [e] at g1 g2
  exact ⟨g1,g2⟩
 ·have ne : decide (zs = ws) = false:=decide_eq_false fun z=>hl (by rw [z])
  have hs : (its.toArray.size != its2.toArray.size) = true:=by
   rw [l1,l2]
   simpa using hl
  rw [ne]
  exact ⟨SeqAt.RcAt.lists_lengths t.isList t'.isList hs hu,SeqAt.RcNeAt.lists_lengths t.isList t'.isList hs hu⟩
theorem eqok_tup {A : Around} (h : EqOk X A.in1 R) (hu : A.units < cLine) : EqOk X A (tupR X.K R) where
 eq:=fun pins σ H s I zs ws x y u v ⟨a,xs,e1,q,p⟩ ⟨b,ys,e2,q',p'⟩ ru rv=>by
  subst e1 e2
  cases ru
  cases rv
  by_cases hab : a = b
  ·subst hab
   have ex:=I.tuple_inj q q'
   subst ex
   have ez:=paired_fn (h.fn pins σ H s I) p p'
   rw [decide_eq_true ez]
   exact SeqAt.EqAt.same _
  ·exact SeqAt.EqAt.of_refs hab (rc_tup h hu I q q' p p').1
 fn:=fun pins σ H s I zs ws x ⟨a,xs,e1,q,p⟩ ⟨b,ys,e2,q',p'⟩=>by
  subst e1
  cases e2
  have ex:=I.tuple_inj q q'
  subst ex
  exact paired_fn (h.fn pins σ H s I) p p'
theorem op_neTup (h : EqOk X X.A.in1 R) (hu : X.A.units < cLine) : OpR X (compareOp .NotEq) (fun x y H Q=>∃ zs ws,tupR X.K R H zs x /\ tupR X.K R H ws y /\ Q (.bl (!decide (zs = ws))) H):=by
 intro pins s σ H x y v u Q I rx ry hq
 obtain ⟨zs,ws,⟨a,xs,e1,q,p⟩,⟨b,ys,e2,q',p'⟩,hQ⟩:=hq
 subst e1 e2
 cases rx
 cases ry
 exact (rc_tup h hu I q q' p p').2 X.prog X.w _ _ ⟨.bl _,H,I,rfl,hQ⟩
theorem op_eqLst (h : EqOk X X.A.in1 R) (hu : X.A.units < cLine) : OpR X (compareOp .Eq) (fun x y H Q=>∃ zs ws,lstR X.K R H zs x /\ lstR X.K R H ws y /\ Q (.bl (decide (zs = ws))) H):=by
 intro pins s σ H x y v u Q I rx ry hq
 obtain ⟨zs,ws,⟨a,xs,e1,q,p⟩,⟨b,ys,e2,q',p'⟩,hQ⟩:=hq
 subst e1 e2
 cases rx
 cases ry
 exact (rc_lst h hu I q q' p p').1 X.prog X.w _ _ ⟨.bl _,H,I,rfl,hQ⟩
theorem op_catT0 : OpR X (binaryOp .Add) (fun x y H Q=>∃ a b ys,x = .ref a /\ y = .ref b /\ SqT X.K H a [] /\ SqT X.K H b ys /\ Q (.ref b) H):=by
 intro pins s σ H x y v u Q I rx ry h
 obtain ⟨a,b,ys,rfl,rfl,ha,hb,q⟩:=h
 cases rx
 cases ry
 obtain ⟨its,r1,p1,_⟩:=I.tuple ha
 obtain ⟨its2,r2,p2,_⟩:=I.tuple hb
 cases r1
 obtain ⟨⟨c1,d1,t1,l1⟩,o1,hc1,n1,hd1⟩:=p1
 obtain ⟨⟨c2,d2,t2,l2⟩,o2,hc2,n2,hd2⟩:=p2
 simp only at hc1 hd1 hc2 hd2
 subst hc1 hd1 hc2 hd2
 exact concat_meets ⟨_,o1,rfl⟩ ⟨_,o2,rfl⟩ noFill_tuple_add seq_tuple_add PySem.F.slot_tuple_add PySem.F.entry_tuple_add (PySem.F.args_tuple_add_2 _ _)
  (tuple_addW0 a b #[] its2.toArray n1 n2 d1 d2 l1 l2 rfl) ⟨o1,o2,⟨.ref b,H,I,rfl,q⟩⟩
def endsC (x y : Str) : Bool:=decide (y.length <= x.length) && decide (x.cps.toList.drop (x.length - y.length) = y.cps.toList)
theorem mt_ends : MtR X "str.endswith" (fun x vs H Q=>∃ z y,x = .str z /\ vs = [.str y] /\ Q (.bl (endsC z y)) H):=by
 intro pins s σ H x vs v us Q I rx rv h
 obtain ⟨z,y,rfl,rfl,q⟩:=h
 obtain ⟨t,rfl⟩:=rx
 obtain ⟨u,rfl,ru⟩:=vals1 rv
 obtain ⟨t',rfl⟩:=ru
 refine SC.endswith ⟨.bl (endsC z y),H,I,?_,q⟩
 show Value.bool (Txt.endswith z y) = Value.bool (endsC z y)
 have e : Txt.endswith z y = endsC z y:=by
  unfold Txt.endswith endsC
  rw [StrLaws.subAt_eq]
  by_cases hl : y.length <= z.length
  ·have e1 : (z.cps.toList.drop (z.length - y.length)).take y.length = z.cps.toList.drop (z.length - y.length):=List.take_of_length_le (by rw [List.length_drop]; simp [Str.length] at hl ⊢; omega)
   rw [e1]
   have e2 : (z.cps.toList.drop (z.length - y.length) == y.cps.toList) = decide (z.cps.toList.drop (z.length - y.length) = y.cps.toList):=by
    rw [Bool.eq_iff_iff]
    simp
   rw [e2]
   simp [hl]
  ·simp [hl]
 rw [e]
end
end L2
namespace L2
open PySem PySem.Spec PyProof.Rows
def PF (X : Cx) (e : Expr) (n : Nat) (t : St -> Hp -> Prop) : Prop :=
 ∀ (pins : List (Addr × Obj)) (s : Shared) (σ : St) (H : Hp),Inv X pins σ H s -> t σ H -> wpAny (model X.prog X.w) X.A (eval e X.env) (fun v s'=>∃ y tk,v = .str y tk /\ y.length <= n /\ Inv X pins σ H s') X.xe s
def PFs (X : Cx) : List Expr -> Nat -> (St -> Hp -> Prop) -> Prop
 | [],n,_=>n = 0
 | e :: es,n,t=>∃ k m,n = k + m /\ PF X e k t /\ PFs X es m t
section
variable {X : Cx} {t : St -> Hp -> Prop}
theorem pf_const {x : Str} {j : Nat} {pos : Pos} {n : Nat} (h : x.length <= n) : PF X (.Constant (.str x) j pos) n t:=fun pins s σ H I _ =>
 Calls.Constant_str ⟨x,_,rfl,h,I.tok _⟩
theorem pfs_nil : PFs X [] 0 t:=rfl
theorem pfs_cons {e : Expr} {es : List Expr} {k m : Nat} (h1 : PF X e k t) (h2 : PFs X es m t) : PFs X (e :: es) (k + m) t:=⟨k,m,rfl,h1,h2⟩
theorem pf_repr {i n : Nat} {x : Str} {p pos : Pos} (hv : PE X (.Name x p) (tVar i)) (ht : ∀ σ H,t σ H -> ∃ z : Str,σ[i]? = some (some (.str z)) /\ z.length <= n /\ ∀ c ∈ z.cps.toList,c < 16 ^ 8) (hn : 10 * n + 2 <= sizeLine) : PF X (.FormattedValue (.Name x p) 114 none pos) (10 * n + 2) t:=by
 intro pins s σ H I h
 obtain ⟨z,hz,hl,hc⟩:=ht σ H h
 have hr : (reprText z).length <= 10 * n + 2:=by
  have q:=StrLaws.reprText_len z hc
  omega
 refine wpAny_FormattedValue_repr (thn (hv pins s σ H (fun v H'=>v = .str z /\ H' = H) I ⟨_,hz,rfl,rfl⟩) fun v s1 ⟨y,H1,I1,r1,e1,e2⟩=>?_)
 subst e1 e2
 obtain ⟨tk,rfl⟩:=r1
 have hr2 : (reprText z).length <= sizeLine:=Nat.le_trans hr hn
 refine wpAny_pyReprObj_str ?_ hr2
 exact wpAny_formatField_str ⟨_,_,rfl,hr,I1.tok _⟩ ⟨_,_,rfl,hr,(I1.tok _).tok _⟩ hr2
theorem joins_of {pins : List (Addr × Obj)} {σ : St} {H : Hp} (hw : t σ H) {B : Nat} (hB : B <= sizeLine) {Q : Str -> Shared -> Prop} (hQ : ∀ (out : Str) (s : Shared),out.length <= B -> Inv X pins σ H s -> Q out s) :
  ∀ (es : List Expr) (n : Nat) (acc : Str) (s : Shared),PFs X es n t -> acc.length + n <= B -> Inv X pins σ H s -> Joins (model X.prog X.w) X.A X.xe (evalEach es X.env) acc Q s
 | [],n,acc,s,_,ha,I=>hQ acc s (by omega) I
 | e :: es,n,acc,s,⟨k,m,hn,h1,h2⟩,ha,I=>by
  show wpAny (model X.prog X.w) X.A (eval e X.env) _ X.xe s
  refine thn (h1 pins s σ H I hw) fun v s1 ⟨y,tk,ev,hy,I1⟩=>?_
  have el : (acc ++ y).length = acc.length + y.length:=Str.length_append acc y
  exact ⟨y,tk,ev,by omega,joins_of hw hB hQ es m (acc ++ y) s1 h2 (by omega) I1⟩
def tMsg (t : St -> Hp -> Prop) : TE:=fun σ H Q=>t σ H /\ ∀ y : Str,Q (.str y) H
theorem pe_fstr {v1 v2 : Expr} {rest : List Expr} {pos : Pos} {n : Nat} (h : PFs X (v1 :: v2 :: rest) n t) (hn : n <= sizeLine) : PE X (.JoinedStr (v1 :: v2 :: rest) pos) (tMsg t):=by
 intro pins s σ H Q I ⟨hw,hq⟩
 refine wpAny_JoinedStr (joins_of hw hn (fun out s1 hl I1=>⟨Nat.le_trans hl hn,.str out,H,I1.tok _,⟨_,rfl⟩,hq out⟩) _ n Str.empty s h ?_ I)
 show 0 + n <= n
 omega
end
theorem own_obj {K : PySem.W.Frag} {h : Heap} {C : Addr} {bmB : List Value} {newId : String} (X : K.In h) (q : PySem.W.excIn K C bmB newId = true) :
  ∃ bm N nm qn bs hd sn sub ab col dd k0 k1 k2 k3 k5 mN,h.get? C = some (excClassObj nm qn C N bs bm hd sn sub ab col dd k0 k1 k2 k3 k5 newId) /\ h.Ns N mN /\ mN "__init__" = none /\ OwnTail h bmB bm:=by
 unfold PySem.W.excIn at q
 split at q
 case h_2=>cases q
 case h_1 dd cd sl ho =>
  split at q
  case h_2=>cases q
  case h_1 C' bm k0 k1 k2 k3 n k5 hm hs =>
   simp only [Bool.and_eq_true,beq_iff_eq,Bool.not_eq_true'] at q
   obtain ⟨⟨⟨⟨⟨e1,e2⟩,e3⟩,e4⟩,e5⟩,e6⟩:=q
   subst e1 e2
   have es : sl = #[k0,k1,k2,k3,some (.builtin n),k5]:=by
    cases sl with
    | mk l=>exact congrArg Array.mk hs
   subst es
   cases cd with
   | mk nm bs mro ns qn hd sn sub ab col del =>
    simp only at hm e3 e5 e6
    subst hm e3
    exact ⟨bm,ns,nm,qn,bs,hd,sn,sub,ab,col,dd,k0,k1,k2,k3,k5,_,X _ _ ho,.of_isNs (PySem.W.isNs_of_in X e5),PySem.W.nsMap_none_of_in X e5 e6,PySem.W.tail_of_in X e4⟩
def tRaise (C : Addr) (E : XK) (t : TA) : TS:=fun _ σ H=>t σ H fun vs H1=>vs.length <= sizeLine /\ E (.ref C) none H1
theorem ps_raise {X : Cx} {E : XK} {x : Str} {C : Addr} {bmB : List Value} {B newId initId : String} {e₀ : Expr} {rest : List Expr} {np cpos pos : Pos} {t : TA} (hL : Lies X E) (hc : X.calm = true) (hg : Gl X x) (hm : X.mg x = some (.ref C)) (hx : PySem.W.excIn X.K C bmB newId = true)
  (FB : ExcBaseFacts B newId initId bmB) (ha : PA X (e₀ :: rest) t) (hd : (x == ("__debug__" : Str)) = false:=by decide) (he : starEach (e₀ :: rest) X.env = (false,eval e₀ X.env) :: starEach rest X.env:=by rfl)
  (hpl : (backTo cpos (starEach rest X.env)).any (·.1) = false:=by rfl) : PS X (.Raise (some (.Call (.Name x np) (e₀ :: rest) [] cpos)) none pos) (tRaise C E t):=by
 intro pins s σ H D I h
 obtain ⟨bm,N,nm,qn,bs,hdc,sn,sub,ab,col,dd,k0,k1,k2,k3,k5,mN,hC,hN,hni,T⟩:=own_obj I.mod.kin hx
 refine wpAny_Raise_call_subT (C:=C) (nm:=nm) (q:=qn) (N:=N) (bs:=bs) (bm:=bm) (hdct:=hdc) (sn:=sn) (sub:=sub) (ab:=ab) (col:=col) (dd:=dd) (k0:=k0) (k1:=k1) (k2:=k2) (k3:=k3) (k5:=k5) FB (mN:=mN) (T.hasType FB.hasBase) (I.ok.hd hc)
  (by rw [he]; show (false || (backTo cpos (starEach rest X.env)).any (·.1)) = false; rw [hpl]; rfl) hni (ld_glob I hg hm ⟨rfl,?_⟩ hd)
 have hA:=ha cpos pins s σ H _ I h
 rw [he] at hA ⊢
 refine Calls.evalArgs_plain (thn hA fun us s1 ⟨vs,H1,I1,r,hz,hE⟩=>?_)
 exact ⟨rfl,by rw [<- r.length]; exact hz,I1.bk _ _ hC,hN.keeps I1.bk,T.keeps I1.bk,fun h' e hme=>hL pins σ H1 s1 h' e (.ref C) us I1 hme hE⟩
end L2
namespace L2
open PySem PySem.Spec PyProof.Rows
structure XCls (K : PySem.W.Frag) (D : Addr) : Prop where
 cl : (PySem.W.clsIn K D).isSome = true
 ga : PySem.W.findIn K (.ref D) "__getattribute__" = some (some (.builtin "BaseException.__getattribute__"))
 gt : PySem.W.findIn K (.ref D) "__getattr__" = some none
 at_ : PySem.W.findIn K (.ref D) "__class__" = some (some (.builtin "object.__class__"))
 sp : PySem.W.specialIn K (.builtin "object.__class__") "__get__" = some (some (.builtin "getset_descriptor.__get__"))
 tk : PySem.W.takesIn K (.builtin "object.__class__") = some true
 ob : PySem.W.mroIn K D (.type "object") = some true
 be : PySem.W.mroIn K D (.type "BaseException") = some true
theorem looks_cls {M : Model} {h : Heap} {x D : Addr} {ox : Obj} (ho : h.get? x = some ox) (hc : ox.cls = .ref D) : PySem.W.Looks M h (typeOf (.ref x)) (.ref D):=hc ▸ looks_type ho
section
variable {prog : Program} {w : World} {A : Around} {E : Value -> Shared -> Prop} {s : Shared} {K : PySem.W.Frag} {x D : Addr} {ox : Obj}
theorem find_class {M : Model} {h : Heap} {v : Value} (X : K.In h) (T : XCls K D) : PySem.W.Looks M h (PySem.Builtin.ObjectAttr.find v (.ref D) "__class__") (PySem.Builtin.ObjectAttr.Found.bind (.builtin "getset_descriptor.__get__") (.builtin "object.__class__")):=by
 have L3:=PySem.W.looks_takesIn (M:=M) X T.tk
 have L4 : PySem.W.Looks M h (PySem.Builtin.ObjectAttr.dataDescriptor? (some (.builtin "object.__class__")) (some (.builtin "getset_descriptor.__get__"))) (some (.builtin "getset_descriptor.__get__",.builtin "object.__class__")):=L3.andThen .now
 have L5 : PySem.W.Looks M h (PySem.Builtin.ObjectAttr.getOf (some (.builtin "object.__class__"))) (some (.builtin "getset_descriptor.__get__")):=PySem.W.looks_specialIn X T.sp
 exact (PySem.W.looks_findIn X T.at_).andThen (L5.andThen (L4.andThen (PySem.W.Looks.tag .now)))
open PySem.W PySem.Builtin PySem.Builtin.ObjectAttr PySem.Builtin.Getset_descriptor in
theorem class_of {R : Result -> Shared -> Prop} {tp : Value} (X : K.In s.heap) (ho : s.heap.get? x = some ox) (hc : ox.cls = .ref D) (hm : mroIn K D (.type "object") = some true) (h : R (.ok (.ret (.ref D))) s) :
  codeAny (model prog w) A (.call (.builtin "getset_descriptor.__get__") ⟨[.builtin "object.__class__",.ref x,tp],[]⟩) R s:=by
 obtain ⟨hh,g,dr,t,os⟩:=s
 have L0:=looks_cls (M:=model prog w) ho hc
 have L1:=PySem.W.looks_mroIn (M:=model prog w) X hm
 refine codeAny_call_builtin KF.slot_gs.plain KF.entry_gs (KF.slot_gs.check _ _ _ _ _ _ _ _ KF.type_class (KF.args_gs _ _ _) ?_)
 (unfold Builtin.«getset_descriptor.__get__» descrGet; rw [dga_obj])
 refine wpAny_bind (wpAny_pure ?_)
 (unfold descrGetter descrCheckInstance descrNameAndClass isInstance; simp only [KF.owner_class]; repeat lk)
 refine ⟨Code.quiet_builtin _ (by decide +kernel),codeAny_builtin KF.entry_class ?_⟩
 (unfold Builtin.«object.__class__» shownTypeOf; repeat lk)
 exact h
theorem exc_class {Q : Option Value -> Shared -> Prop} (X : K.In s.heap) (T : XCls K D) (ho : s.heap.get? x = some ox) (hc : ox.cls = .ref D) (h : Q (some (.ref D)) { s with toks:=s.toks + 1 }) : wpAny (model prog w) A (getAttr? (.ref x) "__class__") Q E s:=by
 obtain ⟨hh,g,d,t,os⟩:=s
 have L0:=looks_cls (M:=model prog w) ho hc
 have L1:=PySem.W.looks_findIn (M:=model prog w) X T.ga
 have L2:=PySem.W.looks_findIn (M:=model prog w) X T.gt
 have L3:=find_class (M:=model prog w) (v:=.ref x) X T
 have L4:=PySem.W.looks_mroIn (M:=model prog w) X T.be
 have bnd:=PySem.F.attr_ValueError.ga.bind (.ref x)
 unfold getAttr? getAttrBy? getAttrBy
 refine wpAny_bind (wpAny_mkText (wpAny_bind (wpAny_attempt (wpAny_holding (wpAny_bind (L0.at (wpAny_bind (L1.at ?_))))))))
 have hx2 : (Value.builtin "BaseException.__getattribute__" == Value.builtin "object.__getattribute__") = false:=by decide +kernel
 show wpAny _ _ (if (onTheHeap (Value.ref D) && (Value.builtin "BaseException.__getattribute__" == Value.builtin "object.__getattribute__")) = true then _ else _) _ _ _
 rw [hx2,Bool.and_false,if_neg Bool.false_ne_true]
 unfold getAttrByItsOwn hookBefore
 refine wpAny_bind ?_
 show wpAny _ _ (typeLookup (Value.ref D) "__getattr__") _ _ _
 refine L2.at (wpAny_bind (wpAny_attempt (wpAny_holding ?_)))
 show wpAny _ _ (boundAndCalled (Value.builtin "BaseException.__getattribute__") (Value.ref x) _) _ _ _
 unfold boundAndCalled
 rw [bnd]
 refine wpAny_bind (wpAny_pure (wpAny_call ?_))
 refine codeAny_call_builtin PySem.F.attr_ValueError.ga.plain F.entry_bexc_ga ?_
 have hk : builtinKind "BaseException.__getattribute__" = some .slot:=by decide +kernel
 have hsp : splitId "BaseException.__getattribute__" = some ("BaseException","__getattribute__"):=by decide +kernel
 have hargs:=F.args_bexc_ga (.ref x) (.str "__class__" t)
 show wpAny _ _ (checkBuiltinCall "BaseException.__getattribute__" ⟨[Value.ref x,Value.str "__class__" t],[]⟩) _ _ _
 simp only [checkBuiltinCall,hk,hsp]
 refine wpAny_bind ?_
 unfold isInstance
 refine wpAny_bind (L0.at ?_)
 refine L4.at ?_
 repeat (first | with_reducible refine L0.at ?_ | with_reducible refine L3.at ?_ | wp_step)
 refine class_of (s:=⟨hh,g,d,t + 1,os⟩) X ho hc T.ob ?_
 exact wpAny_pure (PySem.W.handed_on rfl (wpAny_pure h))
theorem kitx_exc (T : XCls K D) : PySem.W.KitX K (.ref x) (.ref D) (fun h=>∃ ox,h.get? x = some ox /\ ox.cls = .ref D) where
 ty:=fun _ _ _ ⟨_,ho,hc⟩=>looks_cls ho hc
 it:=fun _ _ X _=>by
  have hc:=T.cl
  unfold PySem.W.clsIn at hc
  split at hc
  ·rename_i ho
   intro A' Q' E' s' k q
   unfold isType loadHead
   exact wpAny_bind (wpAny_loadPart (k _ _ (X _ _ ho)) (wpAny_pure q))
  ·cases hc
 ne:=fun h tp dd its n sl X htp=>by
  have hc:=T.cl
  refine Bool.eq_false_iff.mpr fun q=>?_
  have e : D = tp:=Value.ref.inj (beq_iff_eq.mp q)
  subst e
  unfold PySem.W.clsIn at hc
  split at hc
  ·rename_i ho
   have z:=(X _ _ ho).symm.trans htp
   cases z
  ·cases hc
 ca:=fun X ⟨_,ho,hc⟩ k=>exc_class X T ho hc k
end
section
variable {X : Cx}
theorem Inv.seen {pins : List (Addr × Obj)} {σ : St} {H : Hp} {s : Shared} {e : Addr} {φ : Heap -> Prop} {o : Obj} (I : Inv X pins σ H s) (n : H e = none) (ho : s.heap.get? e = some o) (hφ : φ s.heap) (st : ∀ h1 h2 : Heap,φ h1 -> (∀ o,h1.get? e = some o -> h2.get? e = some o) -> φ h2)
  (h0 : X.s₀.heap.get? e = none) (hl : e ≠ X.env.locals) (hc : ∀ x c,X.env.cells.lookup x = some c -> c ≠ e) (hp : ∀ p ∈ X.pn ++ pins,p.1 ≠ e) (hb : X.base.get? e = none) : Inv X pins σ (upd H e (.ext φ)) s:=by
 have tD : ∀ b u,H b = some u -> b ≠ e:=fun b u q z=>by rw [z,n] at q; cases q
 have h0' : ∀ b u,X.s₀.heap.get? b = some u -> b ≠ e:=fun b u q z=>by rw [z,h0] at q; cases q
 refine ⟨I.ok,I.os,I.bare,⟨I.base.keep,I.base.slot,fun b u q m hx=>by rw [upd_ne (h0' b u q)]; exact I.base.free b u q m hx,I.base.there,fun b xs q=>?_,fun b u v q=>?_,fun b ps q=>?_⟩,I.loc,I.cell,by rw [upd_ne (Ne.symm hl)]; exact I.free,fun x c q=>by rw [upd_ne (hc x c q)]; exact I.freeC x c q,fun p q=>?_,fun b u q=>?_,I.len⟩
 ·have z:=I.base.tups b xs q
  rw [upd_ne (tD b _ z)]; exact z
 ·have z:=I.base.frzs b u v q
  rw [upd_ne (tD b _ z)]; exact z
 ·obtain ⟨more,z⟩:=I.base.tbls b ps q
  exact ⟨more,by rw [upd_ne (tD b _ z)]; exact z⟩
 ·obtain ⟨a1,a2,a3⟩:=I.pin p q
  exact ⟨a1,by rw [upd_ne (hp p q)]; exact a2,a3⟩
 ·by_cases z : b = e
  ·subst z
   rw [upd_same] at q
   cases q
   exact ⟨hφ,⟨o,ho⟩,st⟩
  ·rw [upd_ne z] at q
   exact (I.hok b u q).stay (fun _ _ _ y=>y) (fun c y=>by rw [upd_ne (tD c _ y)]; exact y) fun c xs y=>by rw [upd_ne (tD c _ y)]; exact y
end
end L2
namespace L2
open PySem PySem.Spec PyProof.Rows
section
variable {X : Cx} {pins : List (Addr × Obj)} {σ : St} {H : Hp} {s : Shared}
theorem name_goes {M : Model} {A : Around} {E : Value -> Shared -> Prop} {i : Nat} {n : Str} {pos : Pos} {Q : Unit -> Shared -> Prop} (I : Inv X pins σ H s) (hN : X.N.Nodup) (hi : X.N[i]? = some n) (hk : X.env.scope.names.lookup n = some .local)
  (h : ∀ s',Inv X pins (σ.set i none) H s' -> Q () s') : wpAny M A (do bindName X.env n .none; unbindBehindTheSuite X.env n pos) Q E s:=by
 obtain ⟨m,hn,hl⟩:=id I.loc
 have hcls : (X.env.scope.kind == .class || (X.env.scope.kind == .module && X.env.locals != X.env.globals)) = false:=by rw [I.ok.kind]; rfl
 obtain ⟨oL,_,_,hoL,_⟩:=id hn
 have hiσ : i < σ.length:=by rw [I.len]; exact (List.getElem?_eq_some_iff.mp hi).1
 refine wpAny_nameGoes_keeps hk hn hcls fun h' v hn' hs=>h _ ?_
 have ne0 : ∀ b o,X.s₀.heap.get? b = some o -> b ≠ X.env.locals:=fun b o e=>Nat.ne_of_lt (Nat.lt_of_lt_of_le (Heap.lt_size e) I.ok.above)
 refine ⟨I.ok,I.os,I.bare,⟨fun b o e n' hb hx=>(hs.2 b (ne0 b o e)).trans (I.base.keep b o e n' hb hx),fun b o e n' hb hx=>?_,I.base.free,fun b o e hx=>?_,I.base.tups,I.base.frzs,I.base.tbls⟩,⟨_,hn',fun j y v' e1 e2 e3=>?_⟩,fun y c e=>?_,I.free,I.freeC,fun p hp=>?_,fun b ob e=>?_,by simpa using I.len⟩
 ·obtain ⟨sl,e1⟩:=I.base.slot b o e n' hb hx
  exact ⟨sl,(hs.2 b (ne0 b o e)).trans e1⟩
 ·obtain ⟨o',e1⟩:=I.base.there b o e hx
  exact ⟨o',(hs.2 b (ne0 b o e)).trans e1⟩
 ·by_cases hj : j = i
  ·subst hj
   rw [List.getElem?_set_self hiσ] at e2
   cases e2
  ·rw [List.getElem?_set_ne (Ne.symm hj)] at e2
   obtain ⟨u',r',q⟩:=hl j y v' e1 e2 e3
   refine ⟨u',r',?_⟩
   rcases q with ⟨k,e⟩ | ⟨k,c,e,z⟩
   ·have hy : y ≠ n:=fun z=>hj (nodup_ix hN e1 (z ▸ hi))
    exact .inl ⟨k,by simp [hy,e]⟩
   ·exact .inr ⟨k,c,e,z.sameBut hs (I.cne y c e)⟩
 ·obtain ⟨w',z⟩:=I.cell y c e
  exact ⟨w',z.sameBut hs (I.cne y c e)⟩
 ·obtain ⟨e,n',ne,nf,d⟩:=I.pin p hp
  exact ⟨(hs.2 p.1 ne).trans e,n',ne,nf,d⟩
 ·refine (I.hok b ob e).stay (fun c w' hc q=>(hs.2 c ?_).trans q) (fun _ q=>q) fun _ _ q=>q
  intro z
  rcases hc with y | y
  ·rw [<- y,z,I.free] at e
   cases e
  ·rw [z,I.free] at y
   cases y
end
theorem Fun.okX {P : Program} {w : World} {K : PySem.W.Frag} {mg : Str -> Option Value} {base : Heap} {CX : CXT} {x qual : Str} {st : Stmt} {f : Addr} {fd : FuncData} {N ps : List Str} {k : Nat} {sp : Sp} (F : Fun K x qual st f fd) (S : FnScope N ps (defScope st)) (len : ∀ vs H Q E,sp vs H Q E -> vs.length = ps.length)
  (hbody : ∀ (cdv : Value) (A : Around) (outer : List Env) (s : Shared) (H : Hp) (vs : List V) (Q : VK) (E : XK),Room k (A.deeper (envOfC qual (defScope st) s.heap.objs.size f cdv)) -> sp vs H Q E ->
   ∃ t,PSs (cxOf CX P w K mg base N qual (defScope st) f cdv A outer s H E) (defBody st) t /\ t { nx:=fun _ H'=>Q .non H',rt:=Q } (start N vs) H) : FnOk P w K mg base CX (k + 1) f fd ps sp:=by
 obtain ⟨oc,od,kV,doc,pm,an,cdv,ct,osl,rfl,lk,hcd⟩:=F.ex
 exact fn_of lk hcd S len fun A outer s H vs Q E hr hsp=>hbody cdv A outer s H vs Q E hr hsp
theorem FnOk.anyCX {P : Program} {w : World} {K : PySem.W.Frag} {mg : Str -> Option Value} {base : Heap} {CX : CXT} {k : Nat} {f : Addr} {fd : FuncData} {ps : List Str} {sp : Sp} (F : FnOk P w K mg base CX0 k f fd ps sp) : FnOk P w K mg base CX k f fd ps sp :=
 ⟨F.len,fun A outer s H args us vs Q E hr he hb hv hs=>codeAny_mono (F.run A outer s H args us vs Q E hr he hb hv hs) fun r s' h=>by
  cases r with
  | error e=>exact False.elim h
  | ok fl=>cases fl <;> exact h⟩
theorem Def.anyCX {P : Program} {w : World} {K : PySem.W.Frag} {mg : Str -> Option Value} {base : Heap} {CX : CXT} {k : Nat} {x : Str} {ps : List Str} {sp : Sp} (D : Def P w K mg base CX0 k x ps sp) : Def P w K mg base CX k x ps sp:=by
 obtain ⟨f,fd,F,b,kp,m⟩:=D.ex
 exact ⟨f,fd,F.anyCX,b,kp,m⟩
end L2
namespace L2
open PySem PySem.Spec PyProof.Rows
theorem cut_last (xs : List V) (l : V) : cutV (xs ++ [l]) none (some (-1)) = xs /\ ¬ (HT.sIx (xs ++ [l]).length 0 none = 0 /\ HT.sIx (xs ++ [l]).length (xs ++ [l]).length (some (-1)) = (xs ++ [l]).length):=by
 have e : HT.sIx (xs ++ [l]).length (xs ++ [l]).length (some (-1)) = xs.length:=by
  have z : HT.sIx (xs ++ [l]).length (xs ++ [l]).length (some (-1)) = ((-1 : Int) + ((xs ++ [l]).length : Int)).toNat:=rfl
  rw [z,List.length_append,List.length_singleton]
  omega
 constructor
 ·unfold cutV
  rw [e,HT.sIx_none,List.drop_zero,Nat.sub_zero,List.take_append_of_le_length (Nat.le_refl _),List.take_length]
 ·rw [e,List.length_append,List.length_singleton]
  omega
theorem same_upd {H : Hp} {p : Addr} (h : H p = none) (o : HO) : Same H (upd H p o):=fun b u q=>by rw [upd_ne (ne_of_none q h)]; exact q
theorem Same.seqT {K : PySem.W.Frag} {H H' : Hp} {a : Addr} {xs : List V} (e : Same H H') (h : SqT K H a xs) : SqT K H' a xs:=by
 rcases h with (h | ⟨o,h⟩) | h
 ·exact .inl (.inl (e _ _ h))
 ·exact .inl (.inr ⟨o,e _ _ h⟩)
 ·exact .inr h
abbrev rCat2 (K : PySem.W.Frag) : R2:=fun x y H Q=>(∃ a b ys,x = .ref a /\ y = .ref b /\ SqT K H a [] /\ SqT K H b ys /\ Q (.ref b) H) ∨ rCatT K x y H Q
theorem cat2_rd {K : PySem.W.Frag} {H : Hp} {Q : VK} {a b : Addr} {xs ys : List V} (ha : SqT K H a xs) (hb : H b = some (.tup ys)) (hy : ys ≠ []) (hz : xs.length + ys.length <= sizeLine) (q : ∀ p H',Same H H' -> H' p = some (.tup (xs ++ ys)) -> Q (.ref p) H') : rCat2 K (.ref a) (.ref b) H Q:=by
 by_cases hx : xs = []
 ·subst hx
  exact .inl ⟨a,b,ys,rfl,rfl,ha,SqT.of hb,q b H (Same.refl H) hb⟩
 ·exact .inr ⟨a,b,xs,ys,rfl,rfl,ha,SqT.of hb,hx,hz,fun z=>absurd z hy,fun _ p hp=>q p _ (same_upd hp _) upd_same⟩
theorem snoc_rd {K : PySem.W.Frag} {σ : St} {H : Hp} {Q : VK} {i : Nat} {a : Addr} {xs : List V} {l z : V} {te : TE} (hσ : σ[i]? = some (some (.ref a))) (hS : SqT K H a (xs ++ [l])) (hz : xs.length + 1 <= sizeLine) (ht : ∀ H1,Same H H1 -> ∀ Q1 : VK,Q1 z H1 -> te σ H1 Q1)
  (q : ∀ p H',Same H H' -> H' p = some (.tup (xs ++ [z])) -> Q (.ref p) H') : tOp (rCat2 K) (tSl (rSlT K) (tVar i) tNoPart (tPart (tUn (rU fun i=>.int (-i)) (tC (.int 1))))) (tTup (tCons te tNil)) σ H Q:=by
 obtain ⟨e,nw⟩:=cut_last xs l
 refine ⟨_,hσ,1,rfl,_,rfl,a,_,rfl,hS,nw,fun p hp=>?_⟩
 have g1:=same_upd hp (.tup (cutV (xs ++ [l]) none (some (-1))))
 refine ht _ g1 _ ⟨(by show 1 <= sizeLine; decide),fun p2 hp2=>?_⟩
 have g2:=same_upd hp2 (.tup [z])
 refine cat2_rd (xs:=xs) (ys:=[z]) (g2.seqT (SqT.of (by rw [upd_same,e]))) upd_same (by simp) hz fun p3 H' g3 h3=>q p3 H' (g1.trans (g2.trans g3)) h3
end L2
namespace L2
open PySem PySem.Spec PyProof.Rows
section
variable {X : Cx}
theorem vals_strs : ∀ l : List (Str × Tok),Vals ((l.map (·.1)).map V.str) (strValues l)
 | []=>.nil
 | p :: r=>.cons ⟨p.2,rfl⟩ (vals_strs r)
theorem split_count (x y : Str) : (Txt.split x y).length <= x.length + 2:=by
 unfold Txt.split
 split
 ·show 1 <= _; omega
 ·split
  ·show 1 <= _; omega
  ·have z:=StrLaws.occ_length_le x y 0 x.length (x.length + 1)
   rw [length_partsBetween]
   omega
theorem mt_split : MtR X "str.split" (fun x vs H Q=>∃ (z y : Str),x = .str z /\ vs = [.str y] /\ y.length = 1 /\ z.length + 2 <= sizeLine /\ ∀ p,H p = none -> Q (.ref p) (upd H p (.lst ((Txt.split z y).map V.str)))):=by
 intro pins s σ H x vs v us Q I rx rv h
 obtain ⟨z,y,rfl,rfl,hy1,hz,q⟩:=h
 obtain ⟨t,rfl⟩:=rx
 obtain ⟨u,rfl,ru⟩:=vals1 rv
 obtain ⟨t',rfl⟩:=ru
 have hy : (y.length == 0) = false:=by rw [hy1]; rfl
 have fin : ∀ (l : List (Str × Tok)) (k : Nat),l.map (·.1) = Txt.split z y -> EP X pins σ Q (.ref s.heap.objs.size) { s with heap:=s.heap.push { cls:=.type "list",data:=.seq (strValues l).toArray },toks:=k }:=fun l k e=>by
  have hv:=vals_strs l
  rw [e] at hv
  exact ⟨.ref _,_,I.lnew (t':=k) hv (by rw [List.length_map]; exact Nat.le_trans (split_count z y) hz),rfl,q _ I.fresh⟩
 have hn : (Builtin.Str.partsBetween z (Builtin.Str.occurrences z y 0 z.length (z.length + 1)) y.length).length <= sizeLine:=by
  have z1:=StrLaws.occ_length_le z y 0 z.length (z.length + 1)
  rw [length_partsBetween]
  omega
 by_cases h1 : (decide (z.length < y.length) || decide (Builtin.Str.strKind z < Builtin.Str.strKind y)) = true
 ·exact call_meets F.slot_str_split (typeIs_str _ _ _) F.entry_str_split (F.args_str_split_2 _ _) (meets_str_split_cannot_occur z y t t' h1) (fin [(z,t)] s.toks (by unfold Txt.split; rw [if_pos h1] <;> rfl))
 by_cases hf : (Builtin.Str.occurrences z y 0 z.length (z.length + 1)).isEmpty = true
 ·exact call_meets F.slot_str_split (typeIs_str _ _ _) F.entry_str_split (F.args_str_split_2 _ _) (meets_str_split_not_found z y t t' (Bool.eq_false_iff.mpr h1) hy hf) (fin [(z,t)] s.toks (by unfold Txt.split; rw [if_neg h1,if_pos hf] <;> rfl))
 have m:=call_meets (prog:=X.prog) (w:=X.w) (A:=X.A) (E:=X.xe) (s:=s) (Q:=EP X pins σ Q) F.slot_str_split (typeIs_str _ _ _) F.entry_str_split (F.args_str_split_2 _ _) (meets_str_split_sep z y t t' (Bool.eq_false_iff.mpr h1) hy (Bool.eq_false_iff.mpr hf) (by omega) hn)
 refine m ?_
 have e : Txt.split z y = Builtin.Str.partsBetween z (Builtin.Str.occurrences z y 0 z.length (z.length + 1)) y.length:=by unfold Txt.split; rw [if_neg h1,if_neg hf]
 have f:=fin (numbered s.toks (Txt.split z y)) (s.toks + (Txt.split z y).length) (numbered_texts _ _)
 rw [<- strsFrom_eq,e] at f
 exact f
end
end L2
namespace L2
open PySem PySem.Spec PyProof.Rows
section
variable {X : Cx} {α : Type} [DecidableEq α] {R : Hp -> α -> V -> Prop}
noncomputable def standsFor (R : Hp -> α -> V -> Prop) (H : Hp) (z : α) (u : Value) : Bool:=@decide (∃ x,RelV x u /\ R H z x) (Classical.propDecidable _)
theorem standsFor_eq {A : Around} (h : EqOk X A R) {pins : List (Addr × Obj)} {σ : St} {H : Hp} {s : Shared} (I : Inv X pins σ H s) {z a : α} {x : V} {u : Value} (r : RelV x u) (p : R H a x) : standsFor R H z u = decide (a = z):=by
 unfold standsFor
 by_cases e : a = z
 ·subst e
  rw [decide_eq_true rfl]
  exact @decide_eq_true _ (Classical.propDecidable _) ⟨x,r,p⟩
 ·rw [decide_eq_false e]
  refine @decide_eq_false _ (Classical.propDecidable _) fun ⟨y,ry,py⟩=>e ?_
  have ex:=RelV.inj r ry
  subst ex
  exact h.fn pins σ H s I _ _ _ p py
theorem any_stands {A : Around} (h : EqOk X A R) {pins : List (Addr × Obj)} {σ : St} {H : Hp} {s : Shared} (I : Inv X pins σ H s) {z : α} : ∀ {zs : List α} {xs : List V} {us : List Value},Vals xs us -> Paired (R H) zs xs -> us.any (standsFor R H z) = decide (z ∈ zs)
 | _,_,_,.nil,.nil=>by simp
 | _ :: _,_ :: _,_ :: _,.cons r rs,.cons p ps=>by
  rw [List.any_cons,standsFor_eq h I r p,any_stands h I rs ps]
  simp only [List.mem_cons,Bool.decide_or]
  congr 1
  exact decide_eq_decide.mpr eq_comm
theorem mem_stands {A : Around} (h : EqOk X A R) {pins : List (Addr × Obj)} {σ : St} {H : Hp} {s : Shared} (I : Inv X pins σ H s) {z : α} {x : V} {v : Value} (rz : RelV x v) (pz : R H z x) : ∀ {zs : List α} {xs : List V} {us : List Value},Vals xs us -> Paired (R H) zs xs -> ∀ u ∈ us,SeqAt.EqAt A s u v (standsFor R H z u)
 | _,_,_,.nil,.nil,_,hu=>nomatch hu
 | _ :: _,_ :: _,_ :: _,.cons r rs,.cons p ps,u,hu=>by
  rcases List.mem_cons.mp hu with e | e
  ·subst e
   rw [standsFor_eq h I r p]
   exact h.eq pins σ H s I _ _ _ _ _ _ p pz r rz
  ·exact mem_stands h I rz pz rs ps u e
theorem op_inLst (h : EqOk X X.A.in1 R) : OpR X (compareOp .In) (fun x y H Q=>∃ z zs,R H z x /\ lstR X.K R H zs y /\ Q (.bl (decide (z ∈ zs))) H):=by
 intro pins s σ H x y v u Q I rx ry hh
 obtain ⟨z,zs,pz,⟨a,xs,rfl,hq,ps⟩,q⟩:=hh
 cases ry
 obtain ⟨its,r,pl,hz⟩:=I.list hq
 refine SeqAt.in_listAt (standsFor R H z) pl.isList (fun w hw=>mem_stands h I rx pz r ps w (by simpa using hw)) ⟨.bl _,H,I,rfl,?_⟩
 rw [show its.toArray.any (standsFor R H z) = its.any (standsFor R H z) by simp,any_stands h I r ps]
 exact q
end
theorem piled_bound {B : Nat} : ∀ {ts : List Str},(∀ t ∈ ts,t.length <= B) -> piled ts <= ts.length * (B + 2)
 | [],_=>by rw [piled_nil]; exact Nat.zero_le _
 | t :: r,h=>by
  have h1:=h t List.mem_cons_self
  have h2:=piled_bound (ts:=r) fun x hx=>h x (List.mem_cons_of_mem _ hx)
  rw [piled_cons,List.length_cons,Nat.add_mul]
  omega
theorem tupText_len (ts : List Str) : (tupleText ts).length <= piled ts + 3:=by
 have e1 : ((("(" : String) : Str)).length = 1:=rfl
 have e3 : (((if ts.length == 1 then ",)" else ")" : String) : Str)).length <= 2:=by split <;> decide
 unfold tupleText
 rw [strLen_append,strLen_append,e1]
 by_cases h : ts = []
 ·subst h
  have e0 : (Str.join ", " ([] : List Str)).length = 0:=rfl
  rw [e0]
  omega
 ·have z:=join_length_add ts h
  omega
theorem reprs_of {prog : Program} {w : World} {m : Nat} (hm : 10 * m + 2 <= sizeLine) : ∀ {ys : List Str} {its : List Value},Vals (ys.map V.str) its -> (∀ y ∈ ys,y.length <= m /\ ∀ c ∈ y.cps.toList,c < 16 ^ 8) -> ReprAll prog w its (ys.map reprText)
 | [],_,.nil,_=>.nil
 | y :: r,_ :: _,.cons e es,h=>by
  obtain ⟨t,rfl⟩:=e
  obtain ⟨h1,h2⟩:=h y List.mem_cons_self
  have q:=StrLaws.reprText_len y h2
  exact .cons (ReprIs.str y t (by omega)) (reprs_of hm es fun z hz=>h z (List.mem_cons_of_mem _ hz))
section
variable {X : Cx} {t : St -> Hp -> Prop}
theorem pf_reprT {i n m : Nat} {x : Str} {p pos : Pos} (hg : X.A.guards = some []) (hu : X.A.units < cLine) (hv : PE X (.Name x p) (tVar i))
  (ht : ∀ σ H,t σ H -> ∃ (a : Addr) (ys : List Str),σ[i]? = some (some (.ref a)) /\ SqT X.K H a (ys.map V.str) /\ ys.length <= n /\ ∀ y ∈ ys,y.length <= m /\ ∀ c ∈ y.cps.toList,c < 16 ^ 8)
  (hm : 10 * m + 2 <= sizeLine) (hn : n * (10 * m + 4) + 3 <= sizeLine) : PF X (.FormattedValue (.Name x p) 114 none pos) (n * (10 * m + 4) + 3) t:=by
 intro pins s σ H I h
 obtain ⟨a,ys,ha,hS,hl,hy⟩:=ht σ H h
 refine wpAny_FormattedValue_repr (thn (hv pins s σ H (fun v H'=>v = .ref a /\ H' = H) I ⟨_,ha,rfl,rfl⟩) fun v s1 ⟨y,H1,I1,r1,e1,e2⟩=>?_)
 subst e1 e2
 cases r1
 obtain ⟨its,rv,⟨o,ho,hc,k,hd⟩,hz⟩:=I1.tuple hS
 have hb : (tupleText (ys.map reprText)).length <= n * (10 * m + 4) + 3:=by
  have z1:=tupText_len (ys.map reprText)
  have z2:=piled_bound (B:=10 * m + 2) (ts:=ys.map reprText) fun t ht=>by
   obtain ⟨y,hm1,rfl⟩:=List.mem_map.mp ht
   have q:=StrLaws.reprText_len y (hy y hm1).2
   have q2:=(hy y hm1).1
   omega
  rw [List.length_map] at z2
  have z3 : ys.length * (10 * m + 2 + 2) <= n * (10 * m + 4):=Nat.mul_le_mul_right _ hl
  omega
 refine wpAny_pyReprObj_tuple (ts:=ys.map reprText) ⟨o,ho,hc⟩ hg (fun _ h=>nomatch h) hu ho hd ?_ (fun u tk=>?_) (Nat.le_trans hb hn)
 ·exact reprs_of hm rv hy
 ·exact wpAny_formatField_str ⟨_,_,rfl,hb,I1.tok _⟩ ⟨_,_,rfl,hb,(I1.tok _).tok _⟩ (Nat.le_trans hb hn)
end
end L2
namespace L2
open PySem PySem.Spec PyProof.Rows
theorem Inv.turnedNew {X : Cx} {pins : List (Addr × Obj)} {σ : St} {H : Hp} {s : Shared} {h' : Heap} {t' : Nat} {ch : List Addr} {a : Addr} {o : HO} (I : Inv X pins σ H s) (k : ∀ b u,b ∉ ch -> s.heap.get? b = some u -> h'.get? b = some u) (hf : ∀ b ∈ ch,FpOk X pins H b)
  (ha : s.heap.objs.size <= a) (new : ObjOk X.prog X.w (upd H a o) h' a o) : Inv X pins σ (upd H a o) { s with heap:=h',toks:=t' }:=by
 have hn : H a = none:=I.hok.fresh ha
 have same : ∀ b u,H b = some u -> upd H a o b = some u:=fun b u e=>by rw [upd_ne (ne_of_none e hn)]; exact e
 have off : ∀ b u,H b = some u -> b ∉ ch:=fun b u e z=>by
  rw [(hf b z).1] at e
  cases e
 refine I.step (g':=s.gens) (d':=s.drawn) (ch:=ch) (fun b hb=>⟨(hf b hb).2.2.2.1,(hf b hb).2.1,(hf b hb).2.2.2.2.1,(hf b hb).2.2.2.2.2⟩) (fun b u _ _ hc e _=>k b u hc e) (fun b u _ _ hc e _=>⟨u.slots,k b u hc e⟩)
  (fun b u hc e n=>by rw [upd_ne (Nat.ne_of_lt (Nat.lt_of_lt_of_le (Heap.lt_size e) ha))]; exact n) (fun b u hc e=>⟨u,k b u hc e⟩) (fun b xs e=>same b _ e) (fun b w u e=>same b _ e) (fun b ps e=>⟨#[],by rw [same b _ e]; simp⟩) (fun m hm=>?_) (fun b u e=>?_) I.bare
 ·obtain ⟨u,es,ep,ho,r⟩:=hm
  exact ⟨u,es,ep,k _ u (fun z=>(hf _ z).2.1 rfl) ho,r⟩
 ·by_cases hb : b = a
  ·subst hb
   rw [upd_same] at e
   cases e
   exact new
  ·rw [upd_ne hb] at e
   refine (I.hok b u e).stay (fun c w hc e'=>k c w ?_ e') (fun c q=>same c _ q) (fun c xs q=>same c _ q)
   rcases hc with rfl | hc
   ·exact off _ _ e
   ·exact off _ _ hc
theorem Inv.turnedAll {X : Cx} {pins : List (Addr × Obj)} {σ : St} {H : Hp} {s : Shared} {h' : Heap} {t' : Nat} {ch : List Addr} (I : Inv X pins σ H s) (k : ∀ b u,b ∉ ch -> s.heap.get? b = some u -> h'.get? b = some u) (hf : ∀ b ∈ ch,FpOk X pins H b) : Inv X pins σ H { s with heap:=h',toks:=t' }:=by
 have off : ∀ b u,H b = some u -> b ∉ ch:=fun b u e z=>by
  rw [(hf b z).1] at e
  cases e
 refine I.step (g':=s.gens) (d':=s.drawn) (ch:=ch) (fun b hb=>⟨(hf b hb).2.2.2.1,(hf b hb).2.1,(hf b hb).2.2.2.2.1,(hf b hb).2.2.2.2.2⟩) (fun b u _ _ hc e _=>k b u hc e) (fun b u _ _ hc e _=>⟨u.slots,k b u hc e⟩)
  (fun b u hc e n=>n) (fun b u hc e=>⟨u,k b u hc e⟩) (fun b xs e=>e) (fun b w u e=>e) (fun b ps e=>⟨#[],by rw [e]; simp⟩) (fun m hm=>?_) (fun b u e=>?_) I.bare
 ·obtain ⟨u,es,ep,ho,r⟩:=hm
  exact ⟨u,es,ep,k _ u (fun z=>(hf _ z).2.1 rfl) ho,r⟩
 ·refine (I.hok b u e).stay (fun c w hc e'=>k c w ?_ e') (fun c q=>q) (fun c xs q=>q)
  rcases hc with rfl | hc
  ·exact off _ _ e
  ·exact off _ _ hc
end L2
namespace L2
open PySem
section
variable {prog : Program} {w : World} {A : Around} {E : Value -> Shared -> Prop} {s : Shared}
structure ZipOff (z TI TO i1 i2 : Addr) (fp1 fp2 : List Addr) : Prop where
 a : TI ≠ z /\ TO ≠ z /\ i1 ≠ z /\ i2 ≠ z /\ TI ≠ TO /\ TI ≠ i1 /\ TI ≠ i2 /\ TO ≠ i1 /\ TO ≠ i2 /\ i1 ≠ i2
 b : z ∉ fp1 /\ TO ∉ fp1 /\ i2 ∉ fp1
 c : z ∉ fp2 /\ TO ∉ fp2 /\ i1 ∉ fp2
variable {z TI TO i1 i2 : Addr} {fp1 fp2 : List Addr} {n1 n2 k : Nat} {P1 P2 : Nat -> Value -> Prop} {S1 S2 : Nat -> Heap -> Prop} {u0 v0 : Value}
end
section
variable {prog : Program} {w : World} {A : Around} {E : Value -> Shared -> Prop} {s : Shared}
end
end L2
namespace L2
open PySem PySem.Spec PyProof.Rows
section
variable {X : Cx} {pins : List (Addr × Obj)} {σ : St} {H : Hp} {s : Shared} {a c : Addr} {xs : List V}
end
structure ZipAt (z TI TO i1 i2 a b : Addr) (i : Nat) (h : Heap) : Prop where
 z : IsZip h z TI TO .none
 ti : IsPair h TI (.ref i1) (.ref i2)
 to : ∃ u v,IsPair h TO u v
 t : h.IsTupleIter i1 a i
 l : h.IsListIter i2 b i
structure Five (z TI TO i1 i2 : Addr) : Prop where
 a : TI ≠ z /\ TO ≠ z /\ i1 ≠ z /\ i2 ≠ z /\ TI ≠ TO /\ TI ≠ i1 /\ TI ≠ i2 /\ TO ≠ i1 /\ TO ≠ i2 /\ i1 ≠ i2
section
variable {P : Program} {w : World} {K : PySem.W.Frag} {elts : List Expr} {kt : Nat} {pt : Pos}
end
section
variable {X : Cx} {elts : List Expr} {kt : Nat} {pt : Pos}
end
end L2
namespace L2
open PySem PySem.Spec PyProof.Rows
def EqS (A : Around) (s : Shared) (x y : V) : Prop:=∀ u v,RelV x u -> RelV y v -> SeqAt.EqAt A s u v true
theorem eqS_items {A : Around} {s : Shared} {xs ys : List V} {us vs : List Value} (r : Vals xs us) (r' : Vals ys vs) (p : Paired (EqS A s) xs ys) (j : Nat) (h1 : j < us.toArray.size) (h2 : j < vs.toArray.size) : SeqAt.EqAt A s us.toArray[j] vs.toArray[j] true:=by
 have l1 : j < us.length:=by simpa using h1
 have l2 : j < vs.length:=by simpa using h2
 have k1 : j < xs.length:=by rw [r.length]; exact l1
 have k2 : j < ys.length:=by rw [r'.length]; exact l2
 obtain ⟨u,hu,ru⟩:=r.get (List.getElem?_eq_getElem k1)
 obtain ⟨v,hv,rv⟩:=r'.get (List.getElem?_eq_getElem k2)
 obtain ⟨x,hx,q⟩:=paired_get p (List.getElem?_eq_getElem k2)
 have ex : x = xs[j]:=by
  rw [List.getElem?_eq_getElem k1] at hx
  exact (Option.some.inj hx).symm
 subst ex
 have e1 : us.toArray[j] = u:=by
  rw [List.getElem?_eq_getElem l1] at hu
  simpa using Option.some.inj hu
 have e2 : vs.toArray[j] = v:=by
  rw [List.getElem?_eq_getElem l2] at hv
  simpa using Option.some.inj hv
 rw [e1,e2]
 exact q u v ru rv
theorem all_true (n : Nat) : (List.range n).all (fun _=>true) = true:=by simp
section
variable {X : Cx} {pins : List (Addr × Obj)} {σ : St} {H : Hp} {s : Shared} {A : Around} {a b : Addr} {xs ys : List V}
theorem rcS_lst (I : Inv X pins σ H s) (q : SqL X.K H a xs) (q' : SqL X.K H b ys) (hu : A.units < cLine) (p : Paired (EqS A.in1 s) xs ys) : SeqAt.RcAt A s (.ref a) (.ref b) true /\ SeqAt.RcNeAt A s (.ref a) (.ref b) false:=by
 obtain ⟨its,r,t,_⟩:=I.list q
 obtain ⟨its2,r',t',_⟩:=I.list q'
 have l : its.toArray.size = its2.toArray.size:=by rw [List.size_toArray,List.size_toArray,<- r.length,<- r'.length,p.length]
 have g1:=SeqAt.RcAt.lists (A:=A) (s:=s) (l:=a) (b:=b) (e:=fun _=>true) t.isList t'.isList l hu (fun j h1 h2=>eqS_items r r' p j h1 h2)
 have g2:=SeqAt.RcNeAt.lists (A:=A) (s:=s) (l:=a) (b:=b) (e:=fun _=>true) t.isList t'.isList l hu (fun j h1 h2=>eqS_items r r' p j h1 h2)
 rw [all_true] at g1 g2
 exact ⟨g1,g2⟩
end
section
variable {X : Cx} {n : Nat}
def rNil (K : PySem.W.Frag) (c : Bool) : R2:=fun x y H Q=>∃ a b xs,x = .ref a /\ y = .ref b /\ SqL K H a xs /\ SqL K H b [] /\ Q (.bl (xs.isEmpty == c)) H
theorem rc_nil {pins : List (Addr × Obj)} {σ : St} {H : Hp} {s : Shared} {A : Around} {a b : Addr} {xs : List V} (I : Inv X pins σ H s) (q : SqL X.K H a xs) (q' : SqL X.K H b []) (hu : A.units < cLine) : SeqAt.RcAt A s (.ref a) (.ref b) xs.isEmpty /\ SeqAt.RcNeAt A s (.ref a) (.ref b) (!xs.isEmpty):=by
 cases xs with
 | nil=>exact rcS_lst I q q' hu .nil
 | cons x r =>
  obtain ⟨its,rv,t,_⟩:=I.list q
  obtain ⟨its2,rv',t',_⟩:=I.list q'
  have e1:=rv.length
  have e2:=rv'.length
  have hs : (its.toArray.size != its2.toArray.size) = true:=by
   rw [List.size_toArray,List.size_toArray,<- e1,<- e2]
   simp
  exact ⟨SeqAt.RcAt.lists_lengths t.isList t'.isList hs hu,SeqAt.RcNeAt.lists_lengths t.isList t'.isList hs hu⟩
theorem op_neNil (hu : X.A.units < cLine) : OpR X (compareOp .NotEq) (rNil X.K false):=by
 rintro pins s σ H x y v u Q I rx ry ⟨a,b,xs,rfl,rfl,q,q',hQ⟩
 cases rx
 cases ry
 refine (rc_nil (A:=X.A) I q q' hu).2 X.prog X.w _ _ ⟨.bl _,H,I,rfl,?_⟩
 cases hx : xs.isEmpty <;> (rw [hx] at hQ; exact hQ)
end
inductive F where
 | nil
 | say (n : Int) (ws : List Str) (r : F)
 | tell (n : Int) (sc : Str) (ph : List Str) (bs : List (Str × Str)) (ms : List Str) (r : F)
 | part (n : Int) (i r : F)
 deriving DecidableEq
inductive Th where
 | say (n : Int) (ws : List Str)
 | tell (n : Int) (sc : Str) (ph : List Str) (bs : List (Str × Str)) (ms : List Str)
 | part (n : Int) (i : F)
 deriving DecidableEq
def F.ths : F -> List Th
 | .nil=>[]
 | .say n ws r=>.say n ws :: r.ths
 | .tell n sc ph bs ms r=>.tell n sc ph bs ms :: r.ths
 | .part n i r=>.part n i :: r.ths
def Th.cons : Th -> F -> F
 | .say n ws,r=>.say n ws r
 | .tell n sc ph bs ms,r=>.tell n sc ph bs ms r
 | .part n i,r=>.part n i r
def F.of : List Th -> F
 | []=>.nil
 | t :: r=>t.cons (F.of r)
theorem ths_cons (t : Th) (f : F) : (t.cons f).ths = t :: f.ths:=by cases t <;> rfl
theorem ths_of : ∀ ts : List Th,(F.of ts).ths = ts
 | []=>rfl
 | t :: r=>by
  show (t.cons (F.of r)).ths = _
  rw [ths_cons,ths_of r]
def F.ord : F -> List Th
 | .nil=>[]
 | .say n ws r=>.say n ws :: r.ord
 | .tell n sc ph bs ms r=>.tell n sc ph bs ms :: r.ord
 | .part n i r=>.part n i :: (i.ord ++ r.ord)
def Th.sub : Th -> F
 | .part _ i=>i
 | _=>.nil
def Th.ord (t : Th) : List Th:=t :: t.sub.ord
theorem ord_flat : ∀ f : F,f.ord = f.ths.flatMap Th.ord
 | .nil=>rfl
 | .say n ws r=>by
  show Th.say n ws :: r.ord = _
  rw [ord_flat r] <;> rfl
 | .tell n sc ph bs ms r=>by
  show Th.tell n sc ph bs ms :: r.ord = _
  rw [ord_flat r] <;> rfl
 | .part n i r=>by
  show Th.part n i :: (i.ord ++ r.ord) = _
  rw [ord_flat r] <;> rfl
def Th.num : Th -> Int
 | .say n _=>n
 | .tell n _ _ _ _=>n
 | .part n _=>n
def F.dep : F -> Nat
 | .nil=>0
 | .say _ _ r=>r.dep
 | .tell _ _ _ _ _ r=>r.dep
 | .part _ i r=>max (i.dep + 1) r.dep
def wR (H : Hp) (ws : List Str) (v : V) : Prop:=∃ a,v = .ref a /\ H a = some (.tup (ws.map V.str))
def cpR (H : Hp) (cp : Str × Str) (v : V) : Prop:=∃ a,v = .ref a /\ H a = some (.tup [.str cp.1,.str cp.2])
def bR (H : Hp) (bs : List (Str × Str)) (v : V) : Prop:=∃ a xs,v = .ref a /\ H a = some (.tup xs) /\ Paired (cpR H) bs xs
def sayR (H : Hp) (n : Int) (ws : List Str) (v : V) : Prop:=∃ a x,v = .ref a /\ H a = some (.tup [.str "say",.int n,x]) /\ wR H ws x
def tellR (H : Hp) (n : Int) (sc : Str) (ph : List Str) (bs : List (Str × Str)) (ms : List Str) (v : V) : Prop:=∃ a x y z,v = .ref a /\ H a = some (.tup [.str "tell",.int n,.str sc,x,y,z]) /\ wR H ph x /\ bR H bs y /\ wR H ms z
def fR (H : Hp) : F -> List V -> Prop
 | .nil,xs=>xs = []
 | .say n ws r,xs=>∃ v ys,xs = v :: ys /\ sayR H n ws v /\ fR H r ys
 | .tell n sc ph bs ms r,xs=>∃ v ys,xs = v :: ys /\ tellR H n sc ph bs ms v /\ fR H r ys
 | .part n i r,xs=>∃ v ys,xs = v :: ys /\ (∃ a b zs,v = .ref a /\ H a = some (.tup [.str "part",.int n,.ref b]) /\ H b = some (.tup zs) /\ fR H i zs) /\ fR H r ys
def partR (H : Hp) (n : Int) (i : F) (v : V) : Prop:=∃ a b zs,v = .ref a /\ H a = some (.tup [.str "part",.int n,.ref b]) /\ H b = some (.tup zs) /\ fR H i zs
def thR (H : Hp) : Th -> V -> Prop
 | .say n ws,v=>sayR H n ws v
 | .tell n sc ph bs ms,v=>tellR H n sc ph bs ms v
 | .part n i,v=>partR H n i v
theorem fR_iff {H : Hp} : ∀ {f : F} {xs : List V},fR H f xs ↔ Paired (thR H) f.ths xs
 | .nil,xs=>⟨fun h=>by cases (show xs = [] from h); exact .nil,fun h=>by cases h; exact rfl⟩
 | .say n ws r,xs=>⟨fun ⟨v,ys,e,q,z⟩=>by subst e; exact .cons q (fR_iff.mp z),fun h=>by cases h with | cons q z=>exact ⟨_,_,rfl,q,fR_iff.mpr z⟩⟩
 | .tell n sc ph bs ms r,xs=>⟨fun ⟨v,ys,e,q,z⟩=>by subst e; exact .cons q (fR_iff.mp z),fun h=>by cases h with | cons q z=>exact ⟨_,_,rfl,q,fR_iff.mpr z⟩⟩
 | .part n i r,xs=>⟨fun ⟨v,ys,e,q,z⟩=>by subst e; exact .cons q (fR_iff.mp z),fun h=>by cases h with | cons q z=>exact ⟨_,_,rfl,q,fR_iff.mpr z⟩⟩
def TSame (H H' : Hp) : Prop:=∀ b xs,H b = some (.tup xs) -> H' b = some (.tup xs)
theorem Same.t {H H' : Hp} (g : Same H H') : TSame H H':=fun b xs q=>g b _ q
theorem TSame.refl (H : Hp) : TSame H H:=fun _ _ q=>q
theorem TSame.trans {H H1 H2 : Hp} (g : TSame H H1) (g' : TSame H1 H2) : TSame H H2:=fun b xs q=>g' b xs (g b xs q)
theorem TSame.upd {H : Hp} {p : Addr} {o : HO} (h : ∀ xs,H p ≠ some (.tup xs)) : TSame H (upd H p o):=fun b xs q=>by
 have hb : b ≠ p:=fun e=>by
  rw [e] at q
  exact h xs q
 rw [upd_ne hb]
 exact q
theorem TSame.lst {H : Hp} {p : Addr} {ys : List V} {o : HO} (h : H p = some (.lst ys)) : TSame H (L2.upd H p o):=TSame.upd fun xs q=>by
 rw [h] at q
 cases q
theorem TSame.new {H : Hp} {p : Addr} {o : HO} (h : H p = none) : TSame H (L2.upd H p o):=TSame.upd fun xs q=>by
 rw [h] at q
 cases q
theorem wR.mono {H H' : Hp} {ws : List Str} {v : V} (h : wR H ws v) (g : TSame H H') : wR H' ws v:=let ⟨a,e,q⟩:=h; ⟨a,e,g _ _ q⟩
theorem cpR.mono {H H' : Hp} {cp : Str × Str} {v : V} (h : cpR H cp v) (g : TSame H H') : cpR H' cp v:=let ⟨a,e,q⟩:=h; ⟨a,e,g _ _ q⟩
theorem bR.mono {H H' : Hp} {bs : List (Str × Str)} {v : V} (h : bR H bs v) (g : TSame H H') : bR H' bs v:=let ⟨a,xs,e,q,p⟩:=h; ⟨a,xs,e,g _ _ q,Paired.mapP p fun _ _ z=>z.mono g⟩
theorem sayR.mono {H H' : Hp} {n : Int} {ws : List Str} {v : V} (h : sayR H n ws v) (g : TSame H H') : sayR H' n ws v:=let ⟨a,x,e,q,p⟩:=h; ⟨a,x,e,g _ _ q,p.mono g⟩
theorem tellR.mono {H H' : Hp} {n : Int} {sc : Str} {ph : List Str} {bs : List (Str × Str)} {ms : List Str} {v : V} (h : tellR H n sc ph bs ms v) (g : TSame H H') : tellR H' n sc ph bs ms v:=let ⟨a,x,y,z,e,q,p1,p2,p3⟩:=h; ⟨a,x,y,z,e,g _ _ q,p1.mono g,p2.mono g,p3.mono g⟩
theorem fR_mono {H H' : Hp} (g : TSame H H') : ∀ {f : F} {xs : List V},fR H f xs -> fR H' f xs
 | .nil,_,h=>h
 | .say n ws r,_,⟨v,ys,e,q,z⟩=>⟨v,ys,e,q.mono g,fR_mono g z⟩
 | .tell n sc ph bs ms r,_,⟨v,ys,e,q,z⟩=>⟨v,ys,e,q.mono g,fR_mono g z⟩
 | .part n i r,_,⟨v,ys,e,⟨a,b,zs,e1,q1,q2,q3⟩,z⟩=>⟨v,ys,e,⟨a,b,zs,e1,g _ _ q1,g _ _ q2,fR_mono g q3⟩,fR_mono g z⟩
theorem thR.mono {H H' : Hp} {t : Th} {v : V} (h : thR H t v) (g : TSame H H') : thR H' t v:=by
 cases t with
 | say n ws=>exact sayR.mono h g
 | tell n sc ph bs ms=>exact tellR.mono h g
 | part n i =>
  obtain ⟨a,b,zs,e,q1,q2,q3⟩:=h
  exact ⟨a,b,zs,e,g _ _ q1,g _ _ q2,fR_mono g q3⟩
abbrev thsR (H : Hp) : List Th -> List V -> Prop:=Paired (thR H)
theorem thsR.mono {H H' : Hp} {ts : List Th} {xs : List V} (h : thsR H ts xs) (g : TSame H H') : thsR H' ts xs:=Paired.mapP h fun _ _ z=>z.mono g
section
variable {X : Cx} {pins : List (Addr × Obj)} {σ : St} {H : Hp} {s : Shared}
end
end L2
namespace L2
open PySem PySem.Spec PyProof.Rows
section
variable {prog : Program} {w : World} {A : Around} {E : Value -> Shared -> Prop} {s : Shared}
end
section
variable {X : Cx}
end
end L2
namespace L2
open PySem
theorem Same.push {H : Hp} {p : Addr} (h : H p = none) (o : HO) : Same H (upd H p o):=fun b u q=>by rw [upd_ne (ne_of_none q h)]; exact q
section
variable {X : Cx}
def rCatX : R2:=fun x y H Q=>∃ a b xs ys,x = .ref a /\ y = .ref b /\ H a = some (.tup xs) /\ H b = some (.tup ys) /\ xs.length + ys.length <= sizeLine /\ ∀ p H',Same H H' -> H' p = some (.tup (xs ++ ys)) -> Q (.ref p) H'
theorem op_catX : OpR X (binaryOp .Add) rCatX:=by
 intro pins s σ H x y v u Q I rx ry h
 refine (OpR.or op_catT op_catT0) pins s σ H x y v u Q I rx ry ?_
 obtain ⟨a,b,xs,ys,rfl,rfl,ha,hb,hz,q⟩:=h
 cases xs with
 | nil=>exact .inr ⟨a,b,ys,rfl,rfl,SqT.of ha,SqT.of hb,q b H (Same.refl H) hb⟩
 | cons z zs =>
  refine .inl ⟨a,b,_,ys,rfl,rfl,SqT.of ha,SqT.of hb,by simp,hz,fun e=>?_,fun e p hp=>q p _ (Same.push hp _) upd_same⟩
  subst e
  exact q a H (Same.refl H) (by rw [List.append_nil]; exact ha)
end
end L2
namespace L2
open PySem PySem.Spec PyProof.Rows
section
variable {X : Cx} {N' : List Str} {pins : List (Addr × Obj)} {σ : St} {H : Hp} {s : Shared}
end
end L2
namespace L2
open PySem
section
variable {P : Program} {w : World} {K : PySem.W.Frag} {mg : Str -> Option Value} {base : Heap} {f : Addr}
theorem pe_dX {N : List Str} {qual : Str} {scope : Scope} {cd : Value} {A : Around} {outer : List Env} {s₀ : Shared} {H₀ : Hp} {E : XK} {k k' : Nat} {x : Str} {ps : List Str} {sp : Sp} {p pos : Pos} {e : Expr} {es : List Expr} {t : TA}
  (G : Def P w K mg base (CXX P w) k x ps sp) (hr : Room k' (A.deeper (PyProof.Rows.envOfC qual scope s₀.heap.objs.size f cd))) (hk : k <= k') (ha : PA (cxOf (CXX P w) P w K mg base N qual scope f cd A outer s₀ H₀ E) (e :: es) t) (hg : Gl (cxOf (CXX P w) P w K mg base N qual scope f cd A outer s₀ H₀ E) x:=by rfl) (hdb : (x == ("__debug__" : Str)) = false:=by decide)
  (he : starEach (e :: es) (cxOf (CXX P w) P w K mg base N qual scope f cd A outer s₀ H₀ E).env = (false,eval e (cxOf (CXX P w) P w K mg base N qual scope f cd A outer s₀ H₀ E).env) :: starEach es (cxOf (CXX P w) P w K mg base N qual scope f cd A outer s₀ H₀ E).env:=by rfl) (hpl : (backTo pos (starEach es (cxOf (CXX P w) P w K mg base N qual scope f cd A outer s₀ H₀ E).env)).any (·.1) = false:=by rfl) :
  PE (cxOf (CXX P w) P w K mg base N qual scope f cd A outer s₀ H₀ E) (.Call (.Name x p) (e :: es) [] pos) (tCall sp [] E0 t):=pe_defE (E:=E0) G (hr.mono hk) (passes_def fun _ _ _ h=>h.elim) ha hg hdb he hpl
theorem pe_d0 {N : List Str} {qual : Str} {scope : Scope} {cd : Value} {A : Around} {outer : List Env} {s₀ : Shared} {H₀ : Hp} {E : XK} {k k' : Nat} {x : Str} {ps : List Str} {sp : Sp} {p pos : Pos} {e : Expr} {es : List Expr} {t : TA}
  (G : Def P w K mg base CX0 k x ps sp) (hr : Room k' (A.deeper (PyProof.Rows.envOfC qual scope s₀.heap.objs.size f cd))) (hk : k <= k') (ha : PA (cxOf (CXX P w) P w K mg base N qual scope f cd A outer s₀ H₀ E) (e :: es) t) (hg : Gl (cxOf (CXX P w) P w K mg base N qual scope f cd A outer s₀ H₀ E) x:=by rfl) (hdb : (x == ("__debug__" : Str)) = false:=by decide)
  (he : starEach (e :: es) (cxOf (CXX P w) P w K mg base N qual scope f cd A outer s₀ H₀ E).env = (false,eval e (cxOf (CXX P w) P w K mg base N qual scope f cd A outer s₀ H₀ E).env) :: starEach es (cxOf (CXX P w) P w K mg base N qual scope f cd A outer s₀ H₀ E).env:=by rfl) (hpl : (backTo pos (starEach es (cxOf (CXX P w) P w K mg base N qual scope f cd A outer s₀ H₀ E).env)).any (·.1) = false:=by rfl) :
  PE (cxOf (CXX P w) P w K mg base N qual scope f cd A outer s₀ H₀ E) (.Call (.Name x p) (e :: es) [] pos) (tCall sp [] E0 t):=pe_defE (E:=E0) G.anyCX (hr.mono hk) (passes_def fun _ _ _ h=>h.elim) ha hg hdb he hpl
end
end L2
namespace L2
open PySem
section
variable {X : Cx}
theorem op_rep3 : OpR X (binaryOp .Mult) (fun x y H Q => ∃ z : Str, x = .str z ∧ y = .int 3 ∧ 1 ≤ z.length ∧ z.length ≤ 1000 ∧ Q (.str ⟨z.cps ++ z.cps ++ z.cps⟩) H) := by
  intro pins s σ H x y v u Q I rx ry h
  obtain ⟨z, rfl, rfl, h1, h2, q⟩ := h
  obtain ⟨t, rfl⟩ := rx
  obtain ⟨t', rfl⟩ := ry
  have e0 : (z.length == 0) = false := by
    cases e : (z.length == 0) with
    | false => rfl
    | true => have : z.length = 0 := by simpa using e
              omega
  refine PySem.P.mul_str (by decide) (fun _ _ => by
    have : (2 ^ 63 - 1) / (3 : Int) = 3074457345618258602 := by decide
    rw [this]
    omega) (fun _ _ => ?_) ?_
  · unfold Builtin.Str.tooLong
    have : sizeLine ≥ 100000 := by decide
    simp
    omega
  · rw [if_neg (by decide), e0]
    have e1 : ((3 : Int) == 1 || false) = false := by decide
    rw [e1, if_neg Bool.false_ne_true]
    have e2 : (List.replicate (3 : Int).toNat z.cps).foldl (· ++ ·) #[] = z.cps ++ z.cps ++ z.cps := by
      show ((#[] ++ z.cps) ++ z.cps) ++ z.cps = _
      rw [Array.empty_append]
    rw [e2]
    refine ⟨?_, ⟨.str ⟨z.cps ++ z.cps ++ z.cps⟩, H, I.tok _, ⟨_, rfl⟩, q⟩⟩
    show (z.cps ++ z.cps ++ z.cps).size ≤ sizeLine
    have hb : sizeLine ≥ 100000 := by decide
    have h2' : z.cps.size ≤ 1000 := h2
    rw [Array.size_append, Array.size_append]
    omega
end
theorem comp_range {lo : Int} {n : Nat} {te : TE} {fin : List V -> Hp -> Prop} {σ : St} {H : Hp} (Pv : Nat -> List V -> Hp -> Prop) (hz : n <= sizeLine) (h0 : Pv 0 [] H) (hl : ∀ i ys H,i <= n -> Pv i ys H -> ys.length <= i)
  (hs : ∀ i ys H,i < n -> Pv i ys H -> ∀ (KY : V -> Hp -> Prop),(∀ y H3,Pv (i + 1) (ys ++ [y]) H3 -> KY y H3) -> te (σ ++ [some (.int (lo + i))]) H KY)
  (hd : ∀ ys H,Pv n ys H -> fin ys H) : CompRd (Itr lo n) tYes te fin σ H:=by
 refine ⟨fun i m ys H=>m = n - i /\ i <= n /\ Pv i ys H,⟨n,by simp,Nat.zero_le _,h0⟩,?_⟩
 rintro i m ys H ⟨rfl,hi,p⟩
 have hy:=hl i ys H hi p
 by_cases hlt : i < n
 ·refine .inr ⟨hlt,fun x H' y=>?_⟩
  obtain ⟨e,e2⟩:=y
  subst e e2
  unfold tYes
  dsimp only
  rw [if_pos rfl]
  exact hs i ys _ hlt p _ fun z H3 p3=>⟨by omega,n - (i + 1),by omega,rfl,hlt,p3⟩
 ·have e : i = n:=by omega
  subst e
  exact .inl ⟨Nat.le_refl _,hd ys H p⟩
end L2
namespace L2
open PySem PySem.Spec PyProof.Rows
structure CompOkP (N : List Str) (fs scope : Scope) (zs : List Str) : Prop where
 kind : scope.kind = .function
 cell : ∀ y ∈ scope.names,y.2 ≠ NameKind.cell
 free : ∀ y ∈ scope.names,y.2 = NameKind.free -> fs.names.lookup y.1 = some .cell ∨ fs.names.lookup y.1 = some .free
 locs : ∀ y ∈ scope.names,y.2 = NameKind.local -> scope.names.lookup y.1 = some .local /\ y.1 ∉ N
 own : ∀ x ∈ zs,scope.names.lookup x = some .local
def compOkP (N : List Str) (fs scope : Scope) (zs : List Str) : Bool :=
 decide (scope.kind = .function) && scope.names.all (fun y=>decide (y.2 ≠ NameKind.cell) && (decide (y.2 ≠ NameKind.free) || decide (fs.names.lookup y.1 = some .cell) || decide (fs.names.lookup y.1 = some .free)) &&
  (decide (y.2 ≠ NameKind.local) || (decide (scope.names.lookup y.1 = some .local) && decide (y.1 ∉ N)))) && zs.all (fun x=>decide (scope.names.lookup x = some .local))
theorem CompOkP.of {N : List Str} {fs scope : Scope} {zs : List Str} (h : compOkP N fs scope zs = true) : CompOkP N fs scope zs:=by
 unfold compOkP at h
 simp only [Bool.and_eq_true,Bool.or_eq_true,decide_eq_true_eq,List.all_eq_true] at h
 obtain ⟨⟨h1,h2⟩,h3⟩:=h
 refine ⟨h1,fun y hy=>(h2 y hy).1.1,fun y hy e=>?_,fun y hy e=>?_,h3⟩
 ·rcases (h2 y hy).1.2 with (z | z) | z
  ·exact absurd e z
  ·exact .inl z
  ·exact .inr z
 ·rcases (h2 y hy).2 with z | z
  ·exact absurd e z
  ·exact z
def compCxP (X : Cx) (zs : List Str) (scope : Scope) (cl : List (Str × Addr)) (C : Addr) (fp : List Addr) (s₀ : Shared) (H₀ : Hp) : Cx :=
 { X with N:=X.N ++ zs,s₀:=s₀,H₀:=H₀,env:=compEnvC scope cl C X.env,outer:=X.stack,stack:=X.stack,ex:=fp,fn:=fun _=>false,pn:=[],xe:=fun _ _=>False }
section
variable {X : Cx} {pins : List (Addr × Obj)} {σ : St} {H : Hp} {s : Shared}
theorem comp_invP {zs : List Str} {scope : Scope} {cl : List (Str × Addr)} {C : Addr} {fp : List Addr} {s' : Shared} (I : Inv X pins σ H s) (ok : CompOkP X.N X.env.scope scope zs)
  (c1 : ∀ y c,cl.lookup y = some c -> X.env.cells.lookup y = some c) (c2 : ∀ y,(y,NameKind.free) ∈ scope.names -> ∃ c,cl.lookup y = some c) (hf : ∀ b ∈ fp,FpOk X pins H b)
  (hC : s.heap.objs.size <= C) (hn : s'.heap.Ns C fun _=>none) (hk : ∀ b o,s.heap.get? b = some o -> s'.heap.get? b = some o) (ho : s'.os = s.os) (hg : s'.gens = s.gens) (hfs : ∀ b ∈ fp,b < s.heap.objs.size) :
  Inv (compCxP X zs scope cl C fp s H) [] (σ ++ (zs.map fun _=>(none : Option V))) H s':=by
 have fresh : H C = none:=I.hok.fresh hC
 have CneC : ∀ y c,cl.lookup y = some c -> c ≠ C:=fun y c e z=>by
  obtain ⟨v,q⟩:=I.cell y c (c1 y c e)
  exact absurd (Nat.lt_of_lt_of_le q.lt (by rw [z]; exact hC)) (Nat.lt_irrefl _)
 refine ⟨⟨I.ok.mod,ok.kind,I.ok.glob,I.ok.blt,hC,fun y z c h1 h2=>I.ok.inj y z c (c1 y c h1) (c1 z c h2),fun y hy=>?_,fun y c z=>?_,I.ok.hd,I.ok.frames,.inl rfl,fun b hb=>⟨?_,fun y c e=>(hf b hb).2.2.2.2.1 y c (c1 y c e)⟩,
   I.bs,Nat.le_trans I.ok.bsz I.sz,fun b o e hb=>?_,fun b hb hb2=>?_,I.stack,I.stkFree⟩,
  ho,by rw [hg]; exact I.bare,Un.kept hk,⟨_,hn,fun i y v h1 h2 h3=>?_⟩,fun y c e=>?_,fresh,fun y c e=>I.freeC y c (c1 y c e),fun p hp=>absurd (show p ∈ ([] : List (Addr × Obj)) from hp) (by simp),I.hok.kept hk,?_⟩
 ·
  have hy : (relabel scope X.env).names.lookup y = some .cell ∨ (relabel scope X.env).names.lookup y = some .free:=hy
  have hm : (y,NameKind.free) ∈ scope.names:=by
   rcases hy with hy | hy
   ·rcases relabel_kind hy with ⟨_,z⟩ | ⟨_,_,z⟩
    ·exact absurd rfl (ok.cell _ z)
    ·exact z
   ·rcases relabel_kind hy with ⟨_,z⟩ | ⟨_,_,z⟩
    ·exact z
    ·exact z
  exact c2 y hm
 ·exact absurd (show false = true from z) (by decide)
 ·exact Nat.ne_of_lt (Nat.lt_of_lt_of_le (hfs b hb) hC)
 ·
  rcases (hf b hb).2.2.2.1 with z | z
  ·exact I.ok.noex b o e z
  ·exact absurd (Nat.lt_of_lt_of_le (Heap.lt_size (I.ok.bs b o e).1) z) (Nat.lt_irrefl _)
 ·
  have hb2 : b ∈ frs X.stack:=hb2
  rcases List.mem_cons.mp (I.stkSub b hb2) with z | z
  ·exact (hf b hb).2.1 z
  ·exact (hf b hb).2.2.1 z
 ·
  have hy : (relabel scope X.env).names.lookup y = some .local ∨ (relabel scope X.env).names.lookup y = some .cell ∨ (relabel scope X.env).names.lookup y = some .free:=h3
  have h1 : (X.N ++ zs)[i]? = some y:=h1
  by_cases hi : i < X.N.length
  ·have e1 : X.N[i]? = some y:=by rw [List.getElem?_append_left hi] at h1; exact h1
   have e2 : σ[i]? = some (some v):=by rw [List.getElem?_append_left (by rw [I.len]; exact hi)] at h2; exact h2
   have hyN : y ∈ X.N:=List.mem_of_getElem? e1
   have hm : ((y,NameKind.free) ∈ scope.names) /\ ((relabel scope X.env).names.lookup y = some .cell ∨ (relabel scope X.env).names.lookup y = some .free):=by
    rcases hy with hy | hy | hy
    ·rcases relabel_kind hy with ⟨_,z⟩ | ⟨z,_⟩
     ·exact absurd hyN (ok.locs _ z rfl).2
     ·cases z
    ·rcases relabel_kind hy with ⟨_,z⟩ | ⟨_,_,z⟩
     ·exact absurd rfl (ok.cell _ z)
     ·exact ⟨z,.inl hy⟩
    ·rcases relabel_kind hy with ⟨_,z⟩ | ⟨_,_,z⟩
     ·exact ⟨z,.inr hy⟩
     ·exact ⟨z,.inr hy⟩
   obtain ⟨c,hc⟩:=c2 y hm.1
   obtain ⟨m,_,hl⟩:=I.loc
   have hv : Vis X.env.scope y:=by
    rcases ok.free _ hm.1 rfl with z | z
    ·exact .inr (.inl z)
    ·exact .inr (.inr z)
   obtain ⟨u,r,l⟩:=hl i y v e1 e2 hv
   refine ⟨u,r,.inr ⟨hm.2,c,hc,?_⟩⟩
   rcases l with ⟨kl,_⟩ | ⟨_,c',e',q⟩
   ·have kl : X.env.scope.names.lookup y = some .local:=kl
    rcases ok.free _ hm.1 rfl with z | z
    ·rw [kl] at z; cases z
    ·rw [kl] at z; cases z
   ·rw [c1 y c hc] at e'
    cases e'
    obtain ⟨oc,hoc,hd⟩:=q
    exact ⟨oc,hk _ _ hoc,hd⟩
  ·rw [List.getElem?_append_right (by rw [I.len]; omega)] at h2
   rw [List.getElem?_map] at h2
   cases e : zs[i - σ.length]? with
   | none=>rw [e] at h2; cases h2
   | some u=>rw [e] at h2; cases h2
 ·obtain ⟨v,oc,hoc,hd⟩:=I.cell y c (c1 y c e)
  exact ⟨v,oc,hk _ _ hoc,hd⟩
 ·show (σ ++ (zs.map fun _=>(none : Option V))).length = (X.N ++ zs).length
  rw [List.length_append,List.length_append,I.len,List.length_map]
end
def CompRdP (n : Nat) (J : It) (gt : TG) (te : TE) (fin : List V -> Hp -> Prop) (σ : St) (H : Hp) : Prop :=
 ∃ W : Nat -> Nat -> List V -> Hp -> Prop,(∃ m,W 0 m [] H) /\ ∀ i m ys H,W i m ys H ->
  (J.stop i H /\ fin ys H) ∨ (J.go i H /\ ∀ x H',J.yld i H x H' -> ∀ us : St,us.length = n -> gt x (σ ++ us) H' fun σ2 H2=>∃ us' : St,us'.length = n /\ σ2 = σ ++ us' /\
   te σ2 H2 fun y H3=>ys.length < sizeLine /\ ∃ m',m' < m /\ W (i + 1) m' (ys ++ [y]) H3)
section
variable {X : Cx} {pins : List (Addr × Obj)} {σ : St} {H : Hp} {s : Shared} {E : Value -> Shared -> Prop}
theorem comp_coreP {elt iter : Expr} {es : List Expr} {x1 : Nat} {tp : Pos} {zs : List Str} {scope : Scope} {pos : Pos} {cl : List (Str × Addr)} {J : It} {it : Addr} {fp : List Addr} {tn : Nat -> Heap -> Prop} {gt : TG} {te : TE} {fin : List V -> Hp -> Prop}
  {RR : Value -> Addr -> Result -> Shared -> Prop} (I : Inv X pins σ H s) (hcalm : X.calm = true) (ok : CompOkP X.N X.env.scope scope zs) (gok : ∀ C fp s₀ H₀,PG (compCxP X zs scope cl C fp s₀ H₀) (.Tuple es x1 tp) gt)
  (c1 : ∀ y c,cl.lookup y = some c -> X.env.cells.lookup y = some c) (c2 : ∀ y,(y,NameKind.free) ∈ scope.names -> ∃ c,cl.lookup y = some c)
  (T : Turn X.prog X.w X.K (.Tuple es x1 tp) J fp it tn) (st : tn 0 s.heap) (hf : ∀ b ∈ fp,FpOk X pins H b)
  (he : ∀ C fp s₀ H₀,PE (compCxP X zs scope cl C fp s₀ H₀) elt te) (rd : CompRdP zs.length J gt te fin σ H)
  (hR : ∀ (D C : Addr) (ys : List V) (H' : Hp) (s' : Shared),H' D = none -> fin ys H' -> Inv X pins σ (upd H' D (.lst ys)) s' -> (∃ m,s'.heap.Ns C m) -> FpOk X pins (upd H' D (.lst ys)) C -> RR (.ref D) C (.ok .next) s') :
  wpAny (model X.prog X.w) X.A (newList []) (fun acc s₃=>wpAny (model X.prog X.w) X.A (newFunctionEnv scope X.env.globals cl [] X.env.qual none .none (some X.env)) (fun cenv s₄ =>
   codeAny (model X.prog X.w) X.A (.compStart (.ListComp elt [⟨.Tuple es x1 tp,iter,[],0⟩] scope pos) 0 (.ref it) acc { cenv with scope:=relabel scope X.env }) (RR acc cenv.locals) s₄) E s₃) E s:=by
 refine wpAny_newObj_type (wpAny_newFunctionEnv ok.cell (by intro y hy; simp at hy) (fun h₁ hns₁ hsb₁=>?_) ok.kind)
 dsimp only at hns₁ hsb₁ ⊢
 generalize hH2 : s.heap.push { cls:=.type "list",dict:=none,data:=.seq ([] : List Value).toArray } = H2 at hns₁ hsb₁ ⊢
 have hC : H2.objs.size = s.heap.objs.size + 1:=by rw [<- hH2,Heap.size_push]
 have hDC : s.heap.objs.size ≠ H2.objs.size:=by rw [hC]; exact Nat.ne_of_lt (Nat.lt_succ_self _)
 have hCle : s.heap.objs.size <= H2.objs.size:=by rw [hC]; exact Nat.le_succ _
 have below : ∀ b,b < s.heap.objs.size -> b ≠ H2.objs.size /\ b ≠ s.heap.objs.size:=fun b hb=>⟨by rw [hC]; exact Nat.ne_of_lt (Nat.lt_succ_of_lt hb),Nat.ne_of_lt hb⟩
 have old : ∀ b o,s.heap.get? b = some o -> h₁.get? b = some o:=fun b o e=>hsb₁.extBut b o (below b (Heap.lt_size e)).1 (Heap.get?_push_of_some _ (hH2 ▸ Heap.get?_push_of_some _ e))
 have hD : h₁.get? s.heap.objs.size = some (listAt [] 0):=hsb₁.extBut _ _ hDC (Heap.get?_push_of_some _ (hH2 ▸ Heap.get?_push_size _ rfl))
 have hfs : ∀ b ∈ fp,b < s.heap.objs.size:=fun b hb=>let ⟨_,e,_⟩:=T.obj 0 _ st b hb; Heap.lt_size e
 have hns₂ : h₁.Ns H2.objs.size fun _=>none:=by
  have e : (fun x=>([] : List (Str × Value)).reverse.lookup x) = fun _=>none:=rfl
  rw [e] at hns₁
  exact hns₁
 obtain ⟨W,⟨m0,w0⟩,turn⟩:=rd
 generalize hDD : s.heap.objs.size = D at *
 generalize hCC : H2.objs.size = C at *
 have Dle : s.heap.objs.size <= D:=Nat.le_of_eq hDD
 have loop : ∀ s₃ : Shared,s₃ = { s with heap:=h₁,toks:=s.toks + ([] : List (Str × Value)).length } ->
   codeAny (model X.prog X.w) X.A (.compLoop (.ListComp elt [⟨.Tuple es x1 tp,iter,[],0⟩] scope pos) 0 (.ref it) (.ref D) (compEnvC scope cl C X.env)) (RR (.ref D) C) s₃:=by
  rintro s₃ rfl
  have I0 : Inv (compCxP X zs scope cl C fp s H) [] (σ ++ (zs.map fun _=>(none : Option V))) H { s with heap:=h₁,toks:=s.toks + ([] : List (Str × Value)).length } :=
   comp_invP I ok c1 c2 hf (by rw [hDD]; exact hCle) hns₂ old rfl rfl (fun b hb=>by rw [hDD]; exact hfs b hb)
  have cellD : ∀ y c,cl.lookup y = some c -> c ≠ D:=fun y c e z=>by
   obtain ⟨v,q⟩:=I.cell y c (c1 y c e)
   exact absurd q.lt (by rw [z,<- hDD]; exact Nat.lt_irrefl _)
  have stat : ∀ {H' : Hp} {pl : List (Addr × Obj)},(∀ p ∈ pl,p.1 = D) -> (∀ b ∈ fp,H' b = none) -> ∀ b ∈ fp,FpOk (compCxP X zs scope cl C fp s H) pl H' b:=fun {H' pl} hpl hn b hb =>
   ⟨hn b hb,(below b (hfs b hb)).1,fun hb2=>by
    have hb2 : b ∈ frs X.stack:=hb2
    rcases List.mem_cons.mp (I.stkSub b hb2) with z | z
    ·exact (hf b hb).2.1 z
    ·exact (hf b hb).2.2.1 z,.inl hb,fun y c e=>(hf b hb).2.2.2.2.1 y c (c1 y c e),fun p hp=>by
     have hp : p ∈ [] ++ pl:=hp
     rw [hpl p (by simpa using hp)]
     exact Ne.symm (below b (hfs b hb)).2⟩
  have pinD : ∀ {σ' : St} {H' : Hp} {s' : Shared} {its : List Value} {c : Nat},Inv (compCxP X zs scope cl C fp s H) [] σ' H' s' -> s'.heap.get? D = some (listAt its c) -> H' D = none -> Inv (compCxP X zs scope cl C fp s H) [(D,listAt its c)] σ' H' s':=fun {σ' H' s' its c} I' e n =>
   I'.pins_of fun p hp=>by
    have hp : p = (D,listAt its c):=by simpa using hp
    subst hp
    refine ⟨e,n,hDC,fun hb2=>?_,fun v z=>by cases z⟩
    have hb2 : D ∈ frs X.stack:=hb2
    rcases List.mem_cons.mp (I.stkSub D hb2) with z | z
    ·exact absurd I.lt (by rw [<- z,<- hDD]; exact Nat.lt_irrefl _)
    ·exact I.nofs Dle z
  refine LCp.codeAny_compLoop_pair (fun n s'=>∃ i us H' ys its c,us.length = zs.length /\ Inv (compCxP X zs scope cl C fp s H) [] (σ ++ us) H' s' /\ tn i s'.heap /\ (∀ b ∈ fp,H' b = none) /\ s'.heap.get? D = some (listAt its c) /\ H' D = none /\ Vals ys its /\ ys.length <= sizeLine /\ W i n ys H')
   ?_ m0 ⟨0,(zs.map fun _=>(none : Option V)),H,[],[],0,List.length_map _,I0,T.keep 0 _ _ st fun b _ o e=>old b o e,fun b hb=>(hf b hb).1,hD,I.hok.fresh Dle,.nil,Nat.zero_le _,w0⟩
  rintro n s' ⟨i,us,H',ys,its,c,lus,I1,st1,fr1,e1,n1,r1,z1,w1⟩
  have I1p:=pinD I1 e1 n1
  have fok1:=stat (H':=H') (pl:=[(D,listAt its c)]) (fun p hp=>by simp at hp; rw [hp]) fr1
  rcases turn i n ys H' w1 with ⟨stop,qf⟩ | ⟨go,step⟩
  ·refine thn (T.done (compCxP X zs scope cl C fp s H) rfl rfl rfl hcalm i _ s' _ H' _ I1p fok1 st1 stop) fun r s2 ⟨hr,I2⟩=>?_
   subst hr
   obtain ⟨e2,n2,_⟩:=I2.pin (D,listAt its c) (List.mem_append_right _ (by simp))
   have u2 : Un (frs X.stack) fp H H' s.heap s2.heap:=I2.base
   have neD : ∀ b o,s.heap.get? b = some o -> b ≠ D:=fun b o e=>(below b (by rw [<- hDD]; exact Heap.lt_size e)).2
   have tD : ∀ b o,H' b = some o -> b ≠ D:=fun b o e z=>by rw [z,n1] at e; cases e
   have hok2 : HOk X.prog X.w (upd H' D (.lst ys)) s2.heap:=fun b o e=>by
    by_cases hb : b = D
    ·subst hb
     rw [upd_same] at e
     cases e
     exact ⟨z1,its,c,r1,e2⟩
    ·rw [upd_ne hb] at e
     exact (I2.hok b o e).stay (fun _ _ _ q=>q) (fun d q=>by rw [upd_ne (tD d _ q)]; exact q) fun d xs q=>by rw [upd_ne (tD d _ q)]; exact q
   have I3 : Inv X pins σ (upd H' D (.lst ys)) s2:=I.call' (ch:=fp) (show s2.os = s.os from I2.os)
    ⟨u2.keep,u2.slot,fun b o e n hx=>by rw [upd_ne (neD b o e)]; exact u2.free b o e n hx,u2.there,fun b xs e=>by
     have q:=u2.tups b xs e
     rw [upd_ne (tD b _ q)]; exact q,fun b o u e=>by
     have q:=u2.frzs b o u e
     rw [upd_ne (tD b _ q)]; exact q,fun b ps e=>by
     obtain ⟨more,q⟩:=u2.tbls b ps e
     exact ⟨more,by rw [upd_ne (tD b _ q)]; exact q⟩⟩ hok2 I2.bare (fun b hb=>⟨(hf b hb).2.2.2.1,(hf b hb).2.1,(hf b hb).2.2.2.2.1,(hf b hb).2.2.2.2.2⟩)
   obtain ⟨m2,hm2,_⟩:=I2.loc
   exact hR D C ys H' s2 n1 qf I3 ⟨m2,hm2⟩ (I.fpOk (by rw [hDD]; exact hCle) (by rw [upd_ne (Ne.symm hDC)]; exact I2.free))
  ·refine thn (T.item (compCxP X zs scope cl C fp s H) rfl rfl rfl hcalm i _ s' _ H' _ I1p fok1 st1 go) fun r s2 ⟨u,hr,h2⟩=>?_
   subst hr
   refine thn h2 fun _ s3 ⟨y,H3,I3,ry,yl,st3,fr3⟩=>?_
   obtain ⟨e3,n3,_⟩:=I3.pin (D,listAt its c) (List.mem_append_right _ (by simp))
   have I3p:=I3.pinned (stat (pl:=[(D,listAt its c)]) (fun p hp=>by simp at hp; rw [hp]) fr3) (T.obj _ _ st3)
   refine thnF (gok C fp s H _ s3 _ H3 y u _ I3p ry (step y H3 yl us lus)) fun _ s4 ⟨σ4,H4,I4,us',lus',hσ,q4⟩=>?_
   subst hσ
   have back : ∀ {H6 : Hp} {s6 : Shared} {its' : List Value} {c' : Nat},Inv (compCxP X zs scope cl C fp s H) (pinsAt fp s3.heap) (σ ++ us') H6 s6 -> s6.heap.get? D = some (listAt its' c') -> H6 D = none -> ∀ {ys' : List V} {m' : Nat},Vals ys' its' -> ys'.length <= sizeLine -> m' < n -> W (i + 1) m' ys' H6 ->
     ∃ m,m < n /\ ∃ i us H' ys its c,us.length = zs.length /\ Inv (compCxP X zs scope cl C fp s H) [] (σ ++ us) H' s6 /\ tn i s6.heap /\ (∀ b ∈ fp,H' b = none) /\ s6.heap.get? D = some (listAt its c) /\ H' D = none /\ Vals ys its /\ ys.length <= sizeLine /\ W i m ys H' :=
    fun {H6 s6 its' c'} I6 e6 n6 {ys' m'} r6 z6 lt6 w6=>by
     refine ⟨m',lt6,i + 1,us',H6,ys',its',c',lus',I6.pins_of (fun p hp=>by simp at hp),T.keep _ _ _ st3 fun b hb o e=>(I6.pin (b,o) (List.mem_append_right _ (mem_pinsAt hb e))).1,fun b hb=>?_,e6,n6,r6,z6,w6⟩
     obtain ⟨o,e,_⟩:=T.obj _ _ st3 b hb
     exact (I6.pin (b,o) (List.mem_append_right _ (mem_pinsAt hb e))).2.1
   refine thnF (he C fp s H _ s4 _ H4 _ I4 q4) fun yv s6 ⟨z,H6,I6,rz,hl6,m',lt,w6⟩=>?_
   obtain ⟨e6,n6,_⟩:=I6.pin (D,listAt its c) (List.mem_append_right _ (by simp))
   have hlen:=r1.length
   refine call_meets F.slot_list_append ⟨_,e6,rfl⟩ F.entry_list_append (F.args_list_append_2 _ _) (PySem.list_append D its.toArray c yv (by rw [List.size_toArray]; omega)) ⟨e6,?_⟩
   have q:=PySem.IsL.update e6 (·.push yv)
   have I6' : Inv (compCxP X zs scope cl C fp s H) (pinsAt fp s3.heap) (σ ++ us') H6 s6:=I6.pins_of fun p hp=>I6.pin p (List.mem_append_right _ (List.mem_append_right _ hp))
   have I7 : Inv (compCxP X zs scope cl C fp s H) (pinsAt fp s3.heap) (σ ++ us') H6 { s6 with heap:=s6.heap.update D (Obj.mapSeq (·.push yv)) } :=
    I6'.turned (it:=D) (t':=s6.toks) (fun b o hb e=>(Heap.get?_update_other s6.heap (Obj.mapSeq (·.push yv)) (Ne.symm hb)).trans e) n6 hDC (.inr Dle) (fun y c e=>cellD y c e) (fun p hp=>by
     have hp : p ∈ [] ++ pinsAt fp s3.heap:=hp
     obtain ⟨hb,_⟩:=of_pinsAt (show p ∈ pinsAt fp s3.heap by simpa using hp)
     exact (below _ (hfs _ hb)).2)
   exact back I7 (its':=its ++ [yv]) (by
    have q':=q
    simp only [List.push_toArray] at q'
    exact q') n6 (r1.append (.cons rz .nil)) (by rw [List.length_append,List.length_singleton]; omega) lt w6
 exact codeAny_compStart_list (loop _ rfl) (T.self X.A 0 _ _ _ (T.keep 0 _ _ st fun b _ o e=>old b o e) (loop _ rfl))
def tCompP (n : Nat) (K : PySem.W.Frag) (wi : TI) (te : TE) : TE:=fun σ H Q=>wi σ H fun J H1=>CompRdP 2 J (gTup K 2 (gCons (gName n) (gCons (gName (n + 1)) gNil))) te (fun ys H2=>∀ p,H2 p = none -> Q (.ref p) (upd H2 p (.lst ys))) σ H1
end
end L2
namespace L2
open PySem PySem.Spec PyProof.Rows
section
variable {X : Cx}
theorem ps_setcompP {i : Nat} {y : Str} {py spos : Pos} {elt iter : Expr} {x y2 : Str} {px py2 tp : Pos} {x1 : Nat} {scope : Scope} {pos : Pos} {wi : TI} {te : TE} (N : List Str) (fs : Scope) (hcalm : X.calm = true) (ok : compOkP N fs scope [x,y2] = true) (hN : (N ++ [x,y2]).Nodup) (hi : PI X (.Tuple [.Name x px,.Name y2 py2] x1 tp) iter wi)
  (he : ∀ cl C fp s₀ H₀,PE (compCxP X [x,y2] scope cl C fp s₀ H₀) elt te) (hy : X.N[i]? = some y) (hyl : Loc X.env.scope y)
  (hsw : swapsWith (.ListComp elt [⟨.Tuple [.Name x px,.Name y2 py2] x1 tp,iter,[],0⟩] scope pos) (some (.Name y py)) spos.line X.env = pure true:=by rfl)
  (hs : ∀ x,foldedSetIterable iter X.env x = pure x:=by intro _; rfl) (hf : X.fn y = true ∨ X.env.scope.names.lookup y = some .local:=by first | exact .inl rfl | exact .inr rfl | assumption) (eN : X.N = N:=by rfl) (eS : X.env.scope = fs:=by rfl) :
  PS X (.Assign [.Name y py] (.ListComp elt [⟨.Tuple [.Name x px,.Name y2 py2] x1 tp,iter,[],0⟩] scope pos) spos) (tAsg (tCompP N.length X.K wi te) (gName i)):=by
 intro pins s σ H D I h
 subst eN eS
 have ok:=CompOkP.of ok
 obtain ⟨cl,hcl,c1,c2⟩:=closure_of (scope:=scope) (env:=X.env) fun y hy e=>I.ok.has y.1 (ok.free y hy e)
 rw [exec_Assign_Name_used _ _ _ _ hsw]
 refine wpAny_bind (wpAny_standAt (wpAny_bind ?_))
 have ee : evalThenUse (.ListComp elt [⟨.Tuple [.Name x px,.Name y2 py2] x1 tp,iter,[],0⟩] scope pos) X.env (assign (.Name y py) X.env) = (comprehension (.ListComp elt [⟨.Tuple [.Name x px,.Name y2 py2] x1 tp,iter,[],0⟩] scope pos) scope X.env (firstIterPos [⟨.Tuple [.Name x px,.Name y2 py2] x1 tp,iter,[],0⟩] pos) (newList []) (firstAsync [⟨.Tuple [.Name x px,.Name y2 py2] x1 tp,iter,[],0⟩]) (firstIter [⟨.Tuple [.Name x px,.Name y2 py2] x1 tp,iter,[],0⟩] X.env) (some (assign (.Name y py) X.env)) >>= fun _=>pure ()):=rfl
 rw [ee]
 refine wpAny_bind (wpAny_comprehension_free (use:=some (assign (.Name y py) X.env)) rfl hs hcl ok.kind (fun y hy e=>(ok.locs y hy e).1) (thn (hi pins s σ H _ I h) fun v s1 h1=>thn h1 fun itv s2 h2=>?_))
 have hgt : ∀ C fp s₀ H₀,PG (compCxP X [x,y2] scope cl C fp s₀ H₀) (.Tuple [.Name x px,.Name y2 py2] x1 tp) (gTup X.K 2 (gCons (gName X.N.length) (gCons (gName (X.N.length + 1)) gNil))):=fun C fp s₀ H₀=>by
  have hxl : (relabel scope X.env).names.lookup x = some .local:=lookup_relabel_local (ok.own x (by simp))
  have hyl : (relabel scope X.env).names.lookup y2 = some .local:=lookup_relabel_local (ok.own y2 (by simp))
  refine pg_tup (X:=compCxP X [x,y2] scope cl C fp s₀ H₀) hcalm (pgs_cons (pg_name (X:=compCxP X [x,y2] scope cl C fp s₀ H₀) hN ?_ (.inl hxl) (.inr hxl)) (pgs_cons (pg_name (X:=compCxP X [x,y2] scope cl C fp s₀ H₀) hN ?_ (.inl hyl) (.inr hyl)) pgs_nil))
  ·show (X.N ++ [x,y2])[X.N.length]? = some x
   rw [List.getElem?_append_right (Nat.le_refl _),Nat.sub_self] <;> rfl
  ·show (X.N ++ [x,y2])[X.N.length + 1]? = some y2
   have e : X.N.length + 1 - X.N.length = 1:=by omega
   rw [List.getElem?_append_right (by omega),e] <;> rfl
 obtain ⟨it,fp,tn,J,H2,e,I2,T,st2,f2,rd⟩:=h2
 subst e
 refine comp_coreP (RR:=fun acc C=>compPost (model X.prog X.w) X.A X.xe (some (assign (.Name y py) X.env)) _ acc C) I2 hcalm ok hgt c1 c2 T st2 f2 (he cl) rd fun A C ys H' s' hA q I' hm fC=>?_
 obtain ⟨m,o,es,ep,ho,hd,hr⟩:=hm
 have I'' : Inv X (pins ++ [(C,o)]) σ (upd H' A (.lst ys)) s':=I'.pins_of fun p hp=>by
  rcases List.mem_append.mp hp with z | z
  ·exact I'.pin p (List.mem_append_right _ z)
  ·have z : p = (C,o):=by simpa using z
   subst z
   exact ⟨ho,fC.1,fC.2.1,fC.2.2.1,fun v z=>by rw [hd] at z; cases z⟩
 refine thn (pg_name (X:=X) (i:=i) (x:=y) (hN.sublist (List.sublist_append_left _ _)) hy hyl hf _ s' σ _ (.ref A) (.ref A) (fun σ' H''=>σ' = σ.set i (some (.ref A)) /\ H'' = upd H' A (.lst ys)) I'' rfl ⟨rfl,rfl⟩) fun _ s3 ⟨σ3,H3,I3,e1,e2⟩=>?_
 subst e1 e2
 obtain ⟨ho3,n3,_⟩:=I3.pin (C,o) (List.mem_append_right _ (by simp))
 refine ⟨m,⟨o,es,ep,ho3,hd,hr⟩,fun h' hs'=>wpAny_pure (wpAny_pure ⟨_,_,?_,q A hA⟩)⟩
 exact (I3.pins_of fun p hp=>I3.pin p (List.mem_append_right _ (List.mem_append_left _ hp))).turned (it:=C) (t':=s3.toks) (fun b o hb e=>(hs'.2 b hb).trans e) n3 fC.2.1 fC.2.2.2.1 fC.2.2.2.2.1 fC.2.2.2.2.2
end
def PX (X : Cx) (e : Expr) (g : St -> Hp -> Str -> Prop) : Prop :=
 ∀ (pins : List (Addr × Obj)) (s : Shared) (σ : St) (H : Hp) (y : Str),Inv X pins σ H s -> g σ H y -> wpAny (model X.prog X.w) X.A (eval e X.env) (fun v s'=>∃ tk,v = .str y tk /\ Inv X pins σ H s') X.xe s
def PXs (X : Cx) : List Expr -> (St -> Hp -> List Str -> Prop) -> Prop
 | [],g=>g = fun _ _ ys=>ys = []
 | e :: es,g=>∃ g1 g2,g = (fun σ H ys=>∃ y zs,ys = y :: zs /\ g1 σ H y /\ g2 σ H zs) /\ PX X e g1 /\ PXs X es g2
section
variable {X : Cx}
theorem px_const {x : Str} {j : Nat} {pos : Pos} : PX X (.Constant (.str x) j pos) (fun _ _ y=>y = x):=fun pins s σ H y I e=>by
 subst e
 exact Calls.Constant_str ⟨_,rfl,I.tok _⟩
theorem px_str {e : Expr} {t : TE} {pos : Pos} (h : PE X e t) : PX X (.FormattedValue e (-1) none pos) (fun σ H y=>y.length <= sizeLine /\ t σ H fun v H'=>v = .str y /\ H' = H):=by
 intro pins s σ H y I ⟨hl,hw⟩
 refine wpAny_FormattedValue_plain (thn (h pins s σ H _ I hw) fun v s1 ⟨z,H1,I1,r1,e1,e2⟩=>?_)
 subst e1 e2
 obtain ⟨tk,rfl⟩:=r1
 exact wpAny_formatField_str ⟨_,rfl,I1⟩ ⟨_,rfl,I1.tok _⟩ hl
theorem pxs_nil : PXs X [] (fun _ _ ys=>ys = []):=rfl
theorem pxs_cons {e : Expr} {es : List Expr} {g1 : St -> Hp -> Str -> Prop} {g2 : St -> Hp -> List Str -> Prop} (h1 : PX X e g1) (h2 : PXs X es g2) : PXs X (e :: es) (fun σ H ys=>∃ y zs,ys = y :: zs /\ g1 σ H y /\ g2 σ H zs):=⟨g1,g2,rfl,h1,h2⟩
def glue (acc : Str) : List Str -> Str
 | []=>acc
 | y :: r=>glue (acc ++ y) r
theorem joinsV {pins : List (Addr × Obj)} {σ : St} {H : Hp} {Q : Str -> Shared -> Prop} : ∀ (es : List Expr) (g : St -> Hp -> List Str -> Prop) (acc : Str) (ys : List Str) (s : Shared),PXs X es g -> g σ H ys -> acc.length + (ys.map (·.length)).sum <= sizeLine -> Inv X pins σ H s ->
  (∀ s' : Shared,Inv X pins σ H s' -> Q (glue acc ys) s') -> Joins (model X.prog X.w) X.A X.xe (evalEach es X.env) acc Q s
 | [],g,acc,ys,s,hp,hg,ha,I,hQ=>by
  have hp : g = fun _ _ ys=>ys = []:=hp
  subst hp
  have hg : ys = []:=hg
  subst hg
  exact hQ s I
 | e :: es,g,acc,ys,s,hp,hg,ha,I,hQ=>by
  obtain ⟨g1,g2,rfl,h1,h2⟩:=hp
  obtain ⟨y,zs,rfl,k1,k2⟩:=hg
  show wpAny (model X.prog X.w) X.A (eval e X.env) _ X.xe s
  refine thn (h1 pins s σ H y I k1) fun v s1 ⟨tk,ev,I1⟩=>?_
  have el : (acc ++ y).length = acc.length + y.length:=Str.length_append acc y
  rw [List.map_cons,List.sum_cons] at ha
  exact ⟨y,tk,ev,by omega,joinsV es g2 (acc ++ y) zs s1 h2 k2 (by omega) I1 hQ⟩
def tFst (g : St -> Hp -> List Str -> Prop) : TE:=fun σ H Q=>∃ ys,g σ H ys /\ (ys.map (·.length)).sum <= sizeLine /\ ((glue Str.empty ys).length <= sizeLine -> Q (.str (glue Str.empty ys)) H)
theorem glue_len : ∀ (ys : List Str) (acc : Str),(glue acc ys).length = acc.length + (ys.map (·.length)).sum
 | [],acc=>by show _ = _ + 0; rfl
 | y :: r,acc=>by
  show (glue (acc ++ y) r).length = _
  rw [glue_len r,List.map_cons,List.sum_cons,Str.length_append]
  omega
theorem pe_fstrV {v1 v2 : Expr} {rest : List Expr} {pos : Pos} {g : St -> Hp -> List Str -> Prop} (h : PXs X (v1 :: v2 :: rest) g) : PE X (.JoinedStr (v1 :: v2 :: rest) pos) (tFst g):=by
 intro pins s σ H Q I ⟨ys,hw,hz,hq⟩
 have hl : (glue Str.empty ys).length <= sizeLine:=by
  have e0 : Str.empty.length = 0:=rfl
  rw [glue_len,e0]
  omega
 refine wpAny_JoinedStr (joinsV _ g Str.empty ys s h hw ?_ I fun s1 I1=>⟨hl,.str _,H,I1.tok _,⟨_,rfl⟩,hq hl⟩)
 show 0 + _ <= _
 omega
end
end L2
namespace L2
open PySem PySem.Spec PyProof.Rows
def Ite (K : PySem.W.Frag) (a : Addr) : It :=
 ⟨fun i H=>∃ xs x,SqL K H a xs /\ xs[i]? = some x,
  fun i H v H'=>∃ p x,v = .ref p /\ H p = none /\ H' = upd H p (.tup [.int (i : Nat),x]) /\ ∀ xs,SqL K H a xs -> xs[i]? = some x,
  fun i H=>∃ xs,SqL K H a xs /\ i = xs.length⟩
structure EnumAt (e it a : Addr) (i : Nat) (h : Heap) : Prop where
 e : ∃ old,IsEnum h e it i old
 l : h.IsListIter it a i
section
variable {P : Program} {w : World} {K : PySem.W.Frag} {elts : List Expr} {kt : Nat} {pt : Pos}
theorem turn_enum (e it a : Addr) (D : e ≠ it) : Turn P w K (.Tuple elts kt pt) (Ite K a) [e,it] e (EnumAt e it a) where
 mem:=by simp
 obj:=fun i h st c hc=>by
  obtain ⟨old,ho⟩:=st.e
  obtain ⟨o2,e2,_,d2⟩:=st.l
  simp only [List.mem_cons,List.not_mem_nil,or_false] at hc
  rcases hc with rfl | rfl
  ·exact ⟨_,ho,fun v z=>nomatch z⟩
  ·exact ⟨o2,e2,fun v z=>by rw [d2] at z; cases z⟩
 keep:=fun i h h' st k=>by
  obtain ⟨old,ho⟩:=st.e
  exact ⟨⟨old,k e (by simp) _ ho⟩,st.l.at fun o q=>k it (by simp) o q⟩
 item:=by
  intro X hP hw hK hc i pins s σ H E I hf st hg
  subst hP hw hK
  obtain ⟨xs,x,qa,hx⟩:=hg
  obtain ⟨its,r,p,z⟩:=I.list qa
  obtain ⟨u,hu,ru⟩:=r.get hx
  obtain ⟨old,ho⟩:=st.e
  refine wpAny_pyNext_enum_item ho st.l p.isList (by simpa using hu) D fun g b1 b2 b3 b4 b5=>⟨_,rfl,?_⟩
  refine wpAny_letOwnedTupleGo_enum b1 fun g2 y2 e2=>?_
  replace e2 : Heap.SameBut e g g2:=e2
  have lt : ∀ c o,s.heap.get? c = some o -> c ≠ s.heap.objs.size:=fun c o q=>Nat.ne_of_lt (Heap.lt_size q)
  have hzs : s.heap.objs.size ≠ e:=(lt _ _ ho).symm
  refine ⟨.ref s.heap.objs.size,upd H s.heap.objs.size (.tup [.int (i : Nat),x]),I.turnedNew (t':=s.toks + 1) (ch:=[e,it]) (fun c o hc q=>e2.extBut _ _ (fun z=>hc (by simp [z])) (b5 c o (fun z=>hc (by simp [z])) (fun z=>hc (by simp [z])) q)) (fun c hc=>hf c hc) (Nat.le_refl _) ?_,rfl,?_,?_,?_⟩
  ·exact ⟨by show 2 <= sizeLine; decide,[.int (i : Nat) s.toks,u],.cons ⟨_,rfl⟩ (.cons ru .nil),⟨_,e2.extBut _ _ hzs b3,rfl,_,rfl⟩⟩
  ·exact ⟨_,x,rfl,I.hok.fresh (Nat.le_refl _),rfl,fun zs hz=>by rw [I.list_inj hz qa]; exact hx⟩
  ·exact ⟨⟨_,y2⟩,b2.extBut e2.extBut (Ne.symm D)⟩
  ·intro c hc
   obtain ⟨o,hoc⟩ : ∃ o,s.heap.get? c = some o:=by
    obtain ⟨o2,e3,_⟩:=st.l
    simp only [List.mem_cons,List.not_mem_nil,or_false] at hc
    rcases hc with rfl | rfl
    ·exact ⟨_,ho⟩
    ·exact ⟨_,e3⟩
   rw [upd_ne (lt c o hoc)]
   exact (hf c hc).1
 done:=by
  intro X hP hw hK hc i pins s σ H E I hf st hg
  subst hP hw hK
  obtain ⟨xs,qa,hx⟩:=hg
  obtain ⟨its,r,p,z⟩:=I.list qa
  obtain ⟨old,ho⟩:=st.e
  have hl:=r.length
  refine wpAny_pyNext_enum_end (show X.A.handled = none from I.ok.hd hc) ho st.l p.isList (by simp; omega) fun g kp=>⟨rfl,I.turnedAll (t':=s.toks) (ch:=[e,it]) (fun c o hc q=>kp c o (fun z=>hc (by simp [z])) q) fun c hc=>hf c hc⟩
 self:=fun _ _ _ _ _ st h=>by
  obtain ⟨old,ho⟩:=st.e
  exact wpAny_pyIter_enum ho h
end
def iEnum (K : PySem.W.Frag) (ta : TA) : TI:=fun σ H R=>ta σ H fun vs H1=>∃ a xs,vs = [.ref a] /\ SqL K H1 a xs /\ R (Ite K a) H1
section
variable {X : Cx} {elts : List Expr} {kt : Nat} {pt : Pos}
theorem pi_enum {e1 : Expr} {ta : TA} {p pos : Pos} (hg : Gl X "enumerate") (hm : X.mg "enumerate" = none) (ha : PA X [e1] ta) (hs : starEach [e1] X.env = [(false,eval e1 X.env)]:=by rfl) :
  PI X (.Tuple elts kt pt) (.Call (.Name "enumerate" p) [e1] [] pos) (iEnum X.K ta):=by
 intro pins s σ H R I h
 refine Call_ (ld_blt I hg hm PyProof.Rows.Boot.enumerate (PyProof.Rows.callWith_type1 (thn (ha pos pins s σ H _ I h) fun us s1 ⟨vs,H1,I1,r1,q1⟩=>?_) (by rw [hs] <;> rfl) (by rfl)))
 obtain ⟨a,xs,ev,qa,q⟩:=q1
 subst ev
 obtain ⟨u,rfl,ru⟩:=vals1 r1
 cases ru
 obtain ⟨its,_,p1,_⟩:=I1.list qa
 refine call_enumerate_list p1.isList fun g c1 c2 c3 kp=>wpAny_pyIter_enum c1 ?_
 have I2 : Inv X pins σ H1 { s1 with heap:=g }:=I1.kept (t':=s1.toks) kp
 refine ⟨_,[s1.heap.objs.size + 1,s1.heap.objs.size],_,_,H1,rfl,I2,turn_enum _ _ a (Nat.succ_ne_self _),⟨⟨_,c1⟩,c2⟩,fun c hc=>?_,q⟩
 have hc' : s1.heap.objs.size <= c:=by
  simp only [List.mem_cons,List.not_mem_nil,or_false] at hc
  rcases hc with rfl | rfl
  ·exact Nat.le_add_right _ _
  ·exact Nat.le_refl _
 exact I1.fpOk hc' (I1.hok.fresh hc')
theorem for_enum {K : PySem.W.Frag} {a : Addr} {xs : List V} {g : TG} {tb : TS} {D : Ends} {σ : St} {H : Hp} (Pv : Nat -> St -> Hp -> Prop) (h0 : Pv 0 σ H) (hl : ∀ i σ H,i <= xs.length -> Pv i σ H -> SqL K H a xs)
  (hs : ∀ i x σ H p,xs[i]? = some x -> Pv i σ H -> H p = none -> g (.ref p) σ (upd H p (.tup [.int (i : Nat),x])) fun σ2 H2=>tb { D with nx:=Pv (i + 1),ct:=Pv (i + 1),bk:=D.nx } σ2 H2) (hd : ∀ σ H,Pv xs.length σ H -> D.nx σ H) :
  ∃ W : Nat -> Nat -> St -> Hp -> Prop,(∃ m,W 0 m σ H) /\ ∀ i m σ H,W i m σ H ->
   ((Ite K a).stop i H /\ D.nx σ H) ∨ ((Ite K a).go i H /\ ∃ N : St -> Hp -> Prop,(∀ σ' H',N σ' H' -> ∃ m',m' < m /\ W (i + 1) m' σ' H') /\ ∀ x H',(Ite K a).yld i H x H' -> g x σ H' fun σ2 H2=>tb { D with nx:=N,ct:=N,bk:=D.nx } σ2 H2):=by
 refine ⟨fun i m σ H=>m = xs.length - i /\ i <= xs.length /\ Pv i σ H,⟨xs.length,by simp,Nat.zero_le _,h0⟩,?_⟩
 rintro i m σ H ⟨rfl,hi,p⟩
 have qa:=hl i σ H hi p
 by_cases hlt : i < xs.length
 ·refine .inr ⟨⟨xs,xs[i],qa,by simp [hlt]⟩,Pv (i + 1),fun σ' H' p'=>⟨xs.length - (i + 1),by omega,rfl,hlt,p'⟩,?_⟩
  rintro v H' ⟨r,x,rfl,hr,rfl,h1⟩
  exact hs i x σ H r (h1 xs qa) p hr
 ·have e : i = xs.length:=by omega
  subst e
  exact .inl ⟨⟨xs,qa,rfl⟩,hd σ H p⟩
end
end L2
namespace L2
open PySem PySem.Spec PyProof.Rows
section
variable {X : Cx}
theorem mt_splitN : MtR X "str.split" (fun x vs H Q=>∃ (z y : Str),x = .str z /\ vs = [.str y] /\ 1 <= y.length /\ z.length + y.length + 2 <= sizeLine /\ ∀ p,H p = none -> Q (.ref p) (upd H p (.lst ((Txt.split z y).map V.str)))):=by
 intro pins s σ H x vs v us Q I rx rv h
 obtain ⟨z,y,rfl,rfl,hy1,hz,q⟩:=h
 obtain ⟨t,rfl⟩:=rx
 obtain ⟨u,rfl,ru⟩:=vals1 rv
 obtain ⟨t',rfl⟩:=ru
 have hy : (y.length == 0) = false:=by
  cases hq : y.length with
  | zero=>omega
  | succ k=>rfl
 have fin : ∀ (l : List (Str × Tok)) (k : Nat),l.map (·.1) = Txt.split z y -> EP X pins σ Q (.ref s.heap.objs.size) { s with heap:=s.heap.push { cls:=.type "list",data:=.seq (strValues l).toArray },toks:=k }:=fun l k e=>by
  have hv:=vals_strs l
  rw [e] at hv
  exact ⟨.ref _,_,I.lnew (t':=k) hv (by rw [List.length_map]; exact Nat.le_trans (split_count z y) (by omega)),rfl,q _ I.fresh⟩
 have hn : (Builtin.Str.partsBetween z (Builtin.Str.occurrences z y 0 z.length (z.length + 1)) y.length).length <= sizeLine:=by
  have z1:=StrLaws.occ_length_le z y 0 z.length (z.length + 1)
  rw [length_partsBetween]
  omega
 by_cases h1 : (decide (z.length < y.length) || decide (Builtin.Str.strKind z < Builtin.Str.strKind y)) = true
 ·exact call_meets F.slot_str_split (typeIs_str _ _ _) F.entry_str_split (F.args_str_split_2 _ _) (meets_str_split_cannot_occur z y t t' h1) (fin [(z,t)] s.toks (by unfold Txt.split; rw [if_pos h1] <;> rfl))
 by_cases hf : (Builtin.Str.occurrences z y 0 z.length (z.length + 1)).isEmpty = true
 ·exact call_meets F.slot_str_split (typeIs_str _ _ _) F.entry_str_split (F.args_str_split_2 _ _) (meets_str_split_not_found z y t t' (Bool.eq_false_iff.mpr h1) hy hf) (fin [(z,t)] s.toks (by unfold Txt.split; rw [if_neg h1,if_pos hf] <;> rfl))
 have m:=call_meets (prog:=X.prog) (w:=X.w) (A:=X.A) (E:=X.xe) (s:=s) (Q:=EP X pins σ Q) F.slot_str_split (typeIs_str _ _ _) F.entry_str_split (F.args_str_split_2 _ _) (meets_str_split_sep z y t t' (Bool.eq_false_iff.mpr h1) hy (Bool.eq_false_iff.mpr hf) (by omega) hn)
 refine m ?_
 have e : Txt.split z y = Builtin.Str.partsBetween z (Builtin.Str.occurrences z y 0 z.length (z.length + 1)) y.length:=by unfold Txt.split; rw [if_neg h1,if_neg hf]
 have f:=fin (numbered s.toks (Txt.split z y)) (s.toks + (Txt.split z y).length) (numbered_texts _ _)
 rw [<- strsFrom_eq,e] at f
 exact f
theorem mt_starts : MtR X "str.startswith" (fun x vs H Q=>∃ z y,x = .str z /\ vs = [.str y] /\ Q (.bl (Txt.startswith z y)) H):=by
 intro pins s σ H x vs v us Q I rx rv h
 obtain ⟨z,y,rfl,rfl,q⟩:=h
 obtain ⟨t,rfl⟩:=rx
 obtain ⟨u,rfl,ru⟩:=vals1 rv
 obtain ⟨t',rfl⟩:=ru
 exact SC.startswith ⟨.bl (Txt.startswith z y),H,I,rfl,q⟩
end
theorem cut_unique {c : Nat} : ∀ {l1 l2 r1 r2 : List Nat},l1 ++ c :: r1 = l2 ++ c :: r2 -> c ∉ l1 -> c ∉ l2 -> l1 = l2 /\ r1 = r2
 | [],[],_,_,h,_,_=>⟨rfl,(List.cons.inj h).2⟩
 | [],b :: l2,_,_,h,_,h2=>absurd (List.cons.inj h).1 (fun z=>h2 (by rw [z]; exact List.mem_cons_self))
 | a :: l1,[],_,_,h,h1,_=>absurd (List.cons.inj h).1.symm (fun z=>h1 (by rw [z]; exact List.mem_cons_self))
 | a :: l1,b :: l2,r1,r2,h,h1,h2=>by
  obtain ⟨e1,e2⟩:=List.cons.inj h
  obtain ⟨e3,e4⟩:=cut_unique e2 (fun z=>h1 (List.mem_cons_of_mem _ z)) fun z=>h2 (List.mem_cons_of_mem _ z)
  exact ⟨by rw [e1,e3],e4⟩
end L2
namespace L2
open PySem PySem.Spec PyProof.Rows
def isNon : V -> Bool
 | .non=>true
 | _=>false
def noneU : Value -> Bool
 | .none=>true
 | _=>false
def NorT (K : PySem.W.Frag) (H : Hp) (v : V) : Prop:=v = .non ∨ ∃ a ys,v = .ref a /\ SqT K H a ys
theorem noneU_of {v : V} {u : Value} (r : RelV v u) (h : v = .non ∨ ∃ a,v = .ref a) : noneU u = isNon v:=by
 rcases h with rfl | ⟨a,rfl⟩
 ·cases r; rfl
 ·cases r; rfl
theorem any_non : ∀ {xs : List V} {us : List Value},Vals xs us -> (∀ v ∈ xs,v = .non ∨ ∃ a,v = .ref a) -> us.any noneU = xs.any isNon
 | _,_,.nil,_=>rfl
 | x :: xs,u :: us,.cons r t,h=>by
  rw [List.any_cons,List.any_cons,noneU_of r (h x List.mem_cons_self),any_non t fun v hv=>h v (List.mem_cons_of_mem _ hv)]
section
variable {X : Cx}
def rInNoneW (K : PySem.W.Frag) : R2:=fun x y H Q=>∃ p xs,x = .non /\ y = .ref p /\ SqT K H p xs /\ (∀ v ∈ xs,NorT K H v) /\ Q (.bl (xs.any isNon)) H
theorem op_inNoneW (hu : X.A.in1.units < cLine) : OpR X (compareOp .In) (rInNoneW X.K):=by
 intro pins s σ H x y v u Q I rx ry h
 obtain ⟨p,xs,rfl,rfl,hq,hx,q⟩:=h
 cases rx
 cases ry
 obtain ⟨its,r,pl,hz⟩:=I.tuple hq
 refine SeqAt.in_tupleAt noneU pl (fun w hw=>?_) ⟨.bl _,H,I,rfl,?_⟩
 ·have hw : w ∈ its:=by simpa using hw
  obtain ⟨j,hj⟩:=List.getElem?_of_mem hw
  obtain ⟨v0,hv0,rv⟩ : ∃ v0,xs[j]? = some v0 /\ RelV v0 w:=by
   have hl:=r.length
   have hj2:=(List.getElem?_eq_some_iff.mp hj).1
   have hj3 : j < xs.length:=by omega
   obtain ⟨w',hw',rw'⟩:=r.get (List.getElem?_eq_getElem hj3)
   rw [hj] at hw'
   cases hw'
   exact ⟨_,List.getElem?_eq_getElem hj3,rw'⟩
  rcases hx v0 (List.mem_of_getElem? hv0) with rfl | ⟨a,ys,rfl,ha⟩
  ·cases rv
   exact SeqAt.EqAt.same _
  ·cases rv
   obtain ⟨its2,_,p2,_⟩:=I.tuple ha
   exact SeqAt.EqAt.tuple_none (show s.heap.IsTuple a its2.toArray from p2) hu
 ·have e : its.toArray.any noneU = its.any noneU:=by simp
  rw [e,any_non r fun v hv=>?_]
  ·exact q
  ·rcases hx v hv with z | ⟨a,_,z,_⟩
   ·exact .inl z
   ·exact .inr ⟨a,z⟩
end
end L2
namespace L2
open PySem PySem.Spec PyProof.Rows
abbrev bmVE : List Value:=[.type "ValueError",.type "Exception",.type "BaseException",.type "object"]
def overVE : List Value -> Bool
 | .ref _ :: r=>overVE r
 | l=>l == bmVE
theorem overVE_refuse (self : Value) : ∀ {l : List Value},overVE l = true -> refuseLoop self "__setattr__" l = pure ()
 | [],e=>absurd e (by decide)
 | v :: r,e=>by
  cases v with
  | ref c=>rw [refuseLoop_ref]; exact overVE_refuse self (l:=r) e
  | _ =>
   have e:=beq_iff_eq.mp e
   rw [e]
   exact PySem.F.store_ValueError.passes self
structure XSet (K : PySem.W.Frag) (C : Addr) (name : Str) : Prop where
 st : PySem.W.findIn K (.ref C) "__setattr__" = some (some (.builtin "object.__setattr__"))
 nm : PySem.W.findIn K (.ref C) name = some none
 ob : PySem.W.mroIn K C (.type "object") = some true
 cl : (PySem.W.clsIn K C).any (fun cd=>cd.hasDict && overVE cd.mro) = true
def excObj (C : Addr) (t : Addr) (d : Option Addr) : Obj:={ cls:=.ref C,dict:=d,data:=.fields #[.ref t,.none,.none,.none,.bool false,.none] }
section
variable {prog : Program} {w : World} {A : Around} {E : Value -> Shared -> Prop} {s : Shared} {K : PySem.W.Frag} {x C t : Addr} {name : Str} {v : Value}
open PySem.W PySem.Builtin PySem.Builtin.ObjectAttr in
set_option maxHeartbeats 400000 in
theorem exc_set {Q : Unit -> Shared -> Prop} (X : K.In s.heap) (T : XSet K C name) (hx : s.heap.get? x = some (excObj C t none))
  (h : ∀ h' tk d,s.heap.objs.size <= d -> d ≠ x -> h'.get? x = some (excObj C t (some d)) -> h'.Ns1 d (fun y=>if y = name then some v else none) -> (∀ b o,b ≠ x -> s.heap.get? b = some o -> h'.get? b = some o) -> Q () { s with heap:=h',toks:=tk }) :
  wpAny (model prog w) A (setAttr (.ref x) name v) Q E s:=by
 obtain ⟨hh,gg,dr,tk,os⟩:=s
 obtain ⟨cd,hc,hcd⟩:=any_some T.cl
 obtain ⟨hhd,hov⟩:=Bool.and_eq_true_iff.mp hcd
 have SF:=PySem.F.store_ValueError
 have L0 : Looks (model prog w) hh (typeOf (.ref x)) (.ref C):=looks_cls hx rfl
 have L1:=looks_findIn (M:=model prog w) X T.st
 have L2:=looks_findIn (M:=model prog w) X T.nm
 have L3 : Looks (model prog w) hh (isInstance (.ref x) (.type "object")) true:=L0.andThen (looks_mroIn X T.ob)
 have L4 : Looks (model prog w) hh (mroOf (.ref C)) cd.mro:=(looks_clsIn X hc).andThen .now
 unfold setAttr callSpecial? specialOf
 refine wpAny_bind (wpAny_mkText (wpAny_bind (wpAny_bind (wpAny_bind (L0.at (L1.at ?_))))))
 refine wpAny_holding (wpAny_bind ?_)
 rw [SF.slot.bind]
 refine wpAny_pure (wpAny_bind (wpAny_call ?_))
 have ha:=SF.args (.ref x) (.str name tk) v
 show codeAny _ _ (.call (.builtin "object.__setattr__") ⟨[.ref x,.str name tk,v],[]⟩) _ _
 refine codeAny_call_builtin SF.slot.plain SF.entry ?_
 refine @check_slot _ _ _ _ _ "object" "__setattr__" (.ref x) [.str name tk,v] [] _ SF.kind SF.split L3 ha ?_
 rw [osa_eq,refuse_eq]
 refine wpAny_bind (wpAny_bind (L0.at (wpAny_bind (L4.at ?_))))
 rw [overVE_refuse _ hov]
 refine wpAny_pure (wpAny_bind (L0.at (wpAny_bind (L2.at (wpAny_bind (wpAny_pure ?_))))))
 show wpAny _ _ (storeInOwnDict _ _ _ _ _ _) _ _ _
 unfold storeInOwnDict ownStreamTells ownDictForStores
 refine wpAny_bind (wpAny_pure ?_)
 refine wpAny_bind ?_
 unfold instanceDict
 refine wpAny_bind (wpAny_loadPart hx ?_)
 refine wpAny_bind ((looks_clsIn X hc).at ?_)
 rw [hhd]
 show wpAny _ _ (alloc { cls:=.type "dict",data:=.dict #[] } >>= fun d=>update x (fun o=>{ cls:=o.cls,dict:=some d,data:=o.data,slots:=o.slots }) >>= fun _=>pure (some d)) _ _ _
 dsimp only at hx h X
 have hxs : x ≠ hh.objs.size:=Nat.ne_of_lt (Heap.lt_size hx)
 have hx1 : (hh.push { cls:=.type "dict",data:=.dict #[] }).get? x = some (excObj C t none):=Heap.get?_push_of_some _ hx
 refine wpAny_bind (wpAny_alloc' (wpAny_bind (wpAny_update' hx1 (wpAny_pure ?_))))
 have hx2 : ((hh.push { cls:=.type "dict",data:=.dict #[] }).update x fun o=>{ cls:=o.cls,dict:=some hh.objs.size,data:=o.data,slots:=o.slots }).get? x = some (excObj C t (some hh.objs.size)):=Heap.get?_update_self _ hx1 rfl
 have kp : ∀ b o,b ≠ x -> hh.get? b = some o -> ((hh.push { cls:=.type "dict",data:=.dict #[] }).update x fun o=>{ cls:=o.cls,dict:=some hh.objs.size,data:=o.data,slots:=o.slots }).get? b = some o:=fun b o hb e=>(Heap.get?_update_ne _ _ _ _ hb).trans (Heap.get?_push_of_some _ e)
 have hgd : ((hh.push { cls:=.type "dict",data:=.dict #[] }).update x fun o=>{ cls:=o.cls,dict:=some hh.objs.size,data:=o.data,slots:=o.slots }).get? hh.objs.size = some { cls:=.type "dict",data:=.dict #[] } :=
  (Heap.get?_update_ne _ _ _ _ hxs.symm).trans (Heap.get?_push_at rfl rfl)
 generalize ((hh.push { cls:=.type "dict",data:=.dict #[] }).update x fun o=>{ cls:=o.cls,dict:=some hh.objs.size,data:=o.data,slots:=o.slots }) = h2 at hx2 kp hgd ⊢
 have hnd : h2.Ns hh.objs.size (fun _=>none):=⟨_,#[],_,hgd,rfl,fun e he=>absurd he (by simp),fun _=>rfl⟩
 show wpAny _ _ (storeInDict hh.objs.size (.str name tk) name v) _ _ _
 unfold storeInDict newKeyGuard
 refine wpAny_bind (wpAny_pure (wpAny_bind (wpAny_nsSet1 (Heap.Ns1.of_empty hnd) fun h3 hn3 hs3=>?_)))
 obtain ⟨oD,esD,epD,hoD,hdD,hcD⟩:=hn3.count (Within.cons name v Within.nil)
 refine wpAny_bind (wpAny_lookBehind hoD ?_ ?_)
 ·rw [hdD]
  exact pastItsLine_dict (Nat.le_trans hcD (by show 1 <= sizeLine + 1; decide))
 ·refine wpAny_pure ?_
  show wpAny _ _ (pure (some _)) _ _ _
  refine wpAny_pure (wpAny_pure (h h3 _ hh.objs.size (Nat.le_refl _) hxs.symm ((hs3.2 x hxs).trans hx2) hn3 fun b o hb e=>?_))
  exact (hs3.2 b (Nat.ne_of_lt (Heap.lt_size e))).trans (kp b o hb e)
end
end L2
namespace L2
open PySem PySem.Spec PyProof.Rows
def ExcAt (x C : Addr) (d : Option Addr) (h : Heap) : Prop:=∃ t,h.get? x = some (excObj C t d)
theorem ExcAt.stays {x C : Addr} {d : Option Addr} : ∀ h1 h2 : Heap,ExcAt x C d h1 -> (∀ o,h1.get? x = some o -> h2.get? x = some o) -> ExcAt x C d h2:=fun _ _ ⟨t,e⟩ k=>⟨t,k _ e⟩
section
variable {X : Cx} {pins : List (Addr × Obj)} {σ : St} {H : Hp} {s : Shared}
theorem Inv.excd {x C d : Addr} {φ : Heap -> Prop} {fs : List (Str × V)} {h' : Heap} {tk : Nat} (I : Inv X pins σ H s) (hx : H x = some (.ext φ)) (nd : s.heap.objs.size <= d) (ne : d ≠ x) (h1 : ExcAt x C (some d) h') (h2 : ∃ mA,h'.Ns1 d mA /\ ∀ f,RelO (fs.lookup f) (mA f)) (k : ∀ b o,b ≠ x -> s.heap.get? b = some o -> h'.get? b = some o) :
  Inv X pins σ (upd (upd H x (.ext (ExcAt x C (some d)))) d (.xd fs)) { s with heap:=h',toks:=tk }:=by
 have hd : H d = none:=I.hok.fresh nd
 have dx : ∀ b o,H b = some o -> b ≠ d:=fun b o e z=>by rw [z,hd] at e; cases e
 have old : ∀ b o,s.heap.get? b = some o -> b ≠ d:=fun b o e=>Nat.ne_of_lt (Nat.lt_of_lt_of_le (Heap.lt_size e) nd)
 have same : ∀ b o,H b = some o -> b ≠ x -> upd (upd H x (.ext (ExcAt x C (some d)))) d (.xd fs) b = some o:=fun b o e z=>by
  rw [upd_ne (dx b o e),upd_ne z]; exact e
 refine I.un ⟨fun b o e n _ _=>k b o (fun z=>by rw [z,hx] at n; cases n) e,fun b o e n _ _=>⟨o.slots,k b o (fun z=>by rw [z,hx] at n; cases n) e⟩,fun b o e n _=>?_,fun b o e _=>?_,fun b xs e=>same b _ e fun z=>?_,fun b o u e=>same b _ e fun z=>?_,fun b ps e=>⟨#[],?_⟩⟩ fun b o e=>?_
 ·rw [upd_ne (old b o e),upd_ne (fun z=>by rw [z,hx] at n; cases n)]
  exact n
 ·by_cases z : b = x
  ·rw [z]; obtain ⟨t,q⟩:=h1; exact ⟨_,q⟩
  ·exact ⟨o,k b o z e⟩
 ·rw [z,hx] at e; cases e
 ·rw [z,hx] at e; cases e
 ·rw [Array.append_empty]
  exact same b _ e fun z=>by rw [z,hx] at e; cases e
 ·by_cases z : b = d
  ·subst z
   rw [upd_same] at e
   cases e
   exact h2
  ·rw [upd_ne z] at e
   by_cases y : b = x
   ·subst y
    rw [upd_same] at e
    cases e
    obtain ⟨t,q⟩:=id h1
    exact ⟨h1,⟨_,q⟩,ExcAt.stays⟩
   ·rw [upd_ne y] at e
    refine (I.hok b o e).stay (fun c u hc r=>k c u (fun v=>?_) r) (fun c r=>same c _ r fun v=>?_) fun c xs r=>same c _ r fun v=>?_
    ·rcases hc with v' | v'
     ·exact y (v'.symm.trans v)
     ·rw [v,hx] at v'; cases v'
    ·rw [v,hx] at r; cases r
    ·rw [v,hx] at r; cases r
end
def sExc (K : PySem.W.Frag) (ta tv : TE) (f : Str) : TS:=fun D σ H=>tv σ H fun y H1=>ta σ H1 fun x H2=>∃ a C,x = .ref a /\ H2 a = some (.ext (ExcAt a C none)) /\ XSet K C f /\ ∀ d,H2 d = none -> d ≠ a -> D.nx σ (upd (upd H2 a (.ext (ExcAt a C (some d)))) d (.xd [(f,y)]))
theorem ps_exc {X : Cx} {o value : Expr} {f : Str} {pos pos' : Pos} {ta tv : TE} (ha : PE X o ta) (hv : PE X value tv) (hs : swapsWith value (some (.Attribute o f pos')) pos.line X.env = pure false) : PS X (.Assign [.Attribute o f pos'] value pos) (sExc X.K ta tv f):=by
 intro pins s σ H D I h
 refine plainObj_wpAny_Assign_Attribute (thn (hv pins s σ H _ I h) fun u s1 ⟨y,H1,I1,ry,q⟩=>thn (ha pins s1 σ H1 _ I1 q) fun ov s2 ⟨x,H2,I2,rx,a,C,ex,ea,c,q2⟩=>?_) hs
 subst ex
 obtain rfl : ov = Value.ref a:=rx
 obtain ⟨⟨t,et⟩,_⟩:=(show ObjOk X.prog X.w H2 s2.heap a (.ext (ExcAt a C none)) from I2.hok a _ ea)
 refine exc_set I2.kIn c et fun h' tk d nd ne h1 h2 kp=>?_
 refine ⟨σ,_,I2.excd (fs:=[(f,y)]) ea nd ne ⟨t,h1⟩ ⟨_,h2,fun g=>?_⟩ kp,q2 d (I2.hok.fresh nd) ne⟩
 show RelO (List.lookup g [(f,y)]) (if g = f then some u else none)
 by_cases z : g = f
 ·have hb : (g == f) = true:=beq_iff_eq.mpr z
  simp only [List.lookup,hb,if_pos z]
  exact ry
 ·have hb : (g == f) = false:=beq_eq_false_iff_ne.mpr z
  simp only [List.lookup,hb,if_neg z]
  exact True.intro
end L2
namespace L2
open PySem PySem.Spec PyProof.Rows
def DK (h h' : Heap) : Prop:=∀ b o,h.get? b = some o -> ∃ o',h'.get? b = some o' /\ o'.dict = o.dict
theorem DK.refl (h : Heap) : DK h h:=fun _ o e=>⟨o,e,rfl⟩
theorem DK.trans {h h1 h2 : Heap} (a : DK h h1) (b : DK h1 h2) : DK h h2:=fun c o e=>by
 obtain ⟨o1,e1,d1⟩:=a c o e
 obtain ⟨o2,e2,d2⟩:=b c o1 e1
 exact ⟨o2,e2,d2.trans d1⟩
theorem DK.push (h : Heap) (o : Obj) : DK h (h.push o):=fun _ u e=>⟨u,Heap.get?_push_of_some _ e,rfl⟩
def MildF (f : Obj -> Obj) : Prop:=∀ o : Obj,o.isFreed = false -> (f o).isFreed = false /\ (f o).dict = o.dict
theorem DK.update {h : Heap} {a : Addr} {f : Obj -> Obj} (m : MildF f) : DK h (h.update a f):=fun b o e=>by
 by_cases z : b = a
 ·subst z
  obtain ⟨m1,m2⟩:=m o (Heap.get?_some_iff.mp e).2
  exact ⟨_,Heap.get?_update_self _ e m1,m2⟩
 ·exact ⟨o,(Heap.get?_update_ne _ _ _ _ z).trans e,rfl⟩
def Mild {α : Type} : Sem α -> Prop
 | .pure _=>True
 | .raise _=>True
 | .unsupported _=>True
 | .rule _ k=>Mild (k ())
 | .at _ k=>Mild (k ())
 | .load _ _ k=>∀ o,Mild (k o)
 | .update _ _ f k=>MildF f /\ Mild (k ())
 | .alloc _ k=>∀ a,Mild (k a)
 | .stack k=>∀ l,Mild (k l)
 | .ask k=>∀ l,Mild (k l)
 | _=>False
theorem Mild.bind {α β : Type} {m : Sem α} {f : α -> Sem β} (h : Mild m) (hf : ∀ a,Mild (f a)) : Mild (m >>= f):=by
 show Mild (m.bind f)
 induction m with
 | pure a=>exact hf a
 | raise e=>exact h
 | unsupported w=>exact h
 | rule t k ih=>exact ih () h
 | «at» p k ih=>exact ih () h
 | load a p k ih=>exact fun o=>ih o (h o)
 | update a p g k ih=>exact ⟨h.1,ih () h.2⟩
 | alloc o k ih=>exact fun a=>ih a (h a)
 | stack k ih=>exact fun a=>ih a (h a)
 | ask k ih=>exact fun a=>ih a (h a)
 | _=>exact h.elim
theorem wp_mild {α : Type} {M : Model} {Γ : PySem.Ctx} {t : Sem α} : ∀ {Q : α -> Pos -> Shared -> Prop} {E : Value -> Pos -> Shared -> Prop} {p : Pos} {s : Shared} {h0 : Heap},Mild t -> DK h0 s.heap -> Sem.wp M Γ t Q E p s -> Sem.wp M Γ t (fun a p' s'=>Q a p' s' /\ DK h0 s'.heap) (fun e p' s'=>E e p' s' /\ DK h0 s'.heap) p s:=by
 induction t with
 | pure a=>exact fun _ d h=>⟨h,d⟩
 | raise e=>exact fun _ d h=>⟨h,d⟩
 | unsupported w=>exact fun _ _ h=>h
 | rule t k ih=>exact fun m d h=>ih () m d h
 | «at» p k ih=>exact fun m d h=>ih () m d h
 | load a p k ih=>exact fun m d ⟨o,e,h⟩=>⟨o,e,ih o (m o) d h⟩
 | update a p g k ih=>exact fun m d ⟨e,h⟩=>⟨e,ih () m.2 (d.trans (DK.update m.1)) h⟩
 | alloc o k ih=>exact fun m d h=>ih _ (m _) (d.trans (DK.push _ _)) h
 | stack k ih=>exact fun m d h=>ih _ (m _) d h
 | ask k ih=>exact fun m d h=>ih _ (m _) d h
 | _=>exact fun m=>m.elim
theorem mild {α : Type} {M : Model} {A : Around} {t : Sem α} {Q : α -> Shared -> Prop} {E : Value -> Shared -> Prop} {s : Shared} (m : Mild t) (h : wpAny M A t Q E s) : wpAny M A t (fun a s'=>Q a s' /\ DK s.heap s'.heap) (fun e s'=>E e s' /\ DK s.heap s'.heap) s :=
 fun Γ p hΓ=>wp_mild m (DK.refl _) (h Γ p hΓ)
theorem mild_pure {α : Type} {a : α} : Mild (Pure.pure a : Sem α):=True.intro
theorem mild_un {α : Type} {w : String} : Mild (unsupported w : Sem α):=True.intro
theorem mild_load {a : Addr} : Mild (load a):=fun _=>True.intro
theorem mild_field (v : Value) (i : Nat) : Mild (field v i):=by
 unfold field
 refine Mild.bind ?_ fun vs=>?_
 ·unfold fieldsOf
  cases v <;> first | exact mild_un | (refine Mild.bind mild_load fun o=>?_; split <;> first | exact mild_pure | exact mild_un)
 ·split <;> first | exact mild_pure | exact mild_un
theorem mildF_map (f : Array Value -> Array Value) : MildF (Obj.mapFields f):=fun o ho=>by
 obtain ⟨c,d,dt,sl⟩:=o
 cases dt <;> first | exact ⟨rfl,rfl⟩ | exact ⟨ho,rfl⟩
theorem mild_setField (v : Value) (i : Nat) (x : Value) : Mild (setField v i x):=by
 unfold setField
 cases v <;> first | exact mild_un | skip
 unfold updateField
 refine Mild.bind mild_load fun o=>?_
 split
 ·split
  ·exact ⟨mildF_map _,True.intro⟩
  ·exact mild_un
 ·exact mild_un
theorem mild_behind (env : Env) (l : List Env) : Mild (behindIsImport env l):=by
 unfold behindIsImport
 split
 ·exact mild_pure
 ·split
  ·exact mild_pure
  ·exact Mild.bind (mild_field _ _) fun _=>mild_pure
theorem mild_kept (env : Env) (b : Bool) (l : List Env) : Mild (keptBack env b l):=by
 cases l with
 | nil =>
  have hu : Mild underTheClaimsCaller:=Mild.bind (m:=stack) (fun _=>True.intro) fun _=>mild_pure
  show Mild (if (env.scope.isGenerator || env.scope.isCoroutine) = true then pure Value.none else _)
  by_cases z : (env.scope.isGenerator || env.scope.isCoroutine) = true
  ·rw [if_pos z]; exact mild_pure
  ·rw [if_neg z]; exact Mild.bind hu fun _=>mild_pure
 | cons c r=>exact mild_pure
theorem mild_ready : ∀ l : List Env,Mild (readyFrames l)
 | []=>mild_pure
 | env :: outer=>by
  unfold readyFrames
  split
  ·refine Mild.bind mild_load fun o=>?_
   split
   ·exact mild_pure
   ·refine Mild.bind (mild_behind _ _) fun b=>Mild.bind (mild_kept _ _ _) fun k=>Mild.bind ?_ fun _=>mild_ready outer
    exact ⟨fun o ho=>⟨by obtain ⟨c,d,dt,sl⟩:=o; cases dt <;> first | rfl | exact ho,rfl⟩,True.intro⟩
  ·exact mild_un
theorem mild_frameOf (env : Env) : Mild (PySem.frameOf env):=by
 unfold PySem.frameOf frameEnvs
 refine Mild.bind (Mild.bind (fun _=>True.intro) fun _=>mild_pure) fun l=>Mild.bind ?_ fun o=>?_
 ·generalize l.dropWhile _ = k
  cases k with
  | nil=>exact mild_pure
  | cons e r=>exact Mild.bind (mild_ready _) fun _=>mild_pure
 ·cases o <;> first | exact mild_pure | exact mild_un
theorem mild_place (f : Addr) (b : Bool) : Mild (entryPlaceOf f b):=by
 unfold entryPlaceOf
 refine Mild.bind (fun _=>True.intro) fun l=>?_
 split <;> exact mild_pure
theorem mild_newEntry (a b c d e : Value) (l : List Value) : Mild (EntryCells.newEntry a b c d e l):=by
 unfold EntryCells.newEntry newFields newObj
 generalize ([a,b,c,d,e] ++ if l.isEmpty = true then List.replicate 6 Value.none else l).toArray = vs
 have hn : Mild (newObjAsIs (.type "traceback") (.fields vs)):=Mild.bind (fun _=>True.intro) fun _=>mild_pure
 dsimp only
 split
 ·exact Mild.bind mild_un fun _=>hn
 ·exact hn
theorem mild_note (e : Value) (env : Env) : Mild (noteFrame e env):=by
 unfold noteFrame
 split
 ·refine Mild.bind (mild_field _ _) fun hd=>?_
  have hz : Mild (do let a <- PySem.frameOf env; let pl <- entryPlaceOf ‹Addr› (hd != .none); let b <- EntryCells.newEntry hd a .none (rawInt ‹Addr›) .none pl; setField e 1 b) :=
   Mild.bind (mild_frameOf env) fun a=>Mild.bind (mild_place _ _) fun pl=>Mild.bind (mild_newEntry _ _ _ _ _ _) fun b=>mild_setField _ _ _
  dsimp only
  split
  ·refine Mild.bind (mild_field _ _) fun x=>?_
   split
   ·exact mild_pure
   ·exact Mild.bind (mild_setField _ _ _) fun _=>hz
  ·exact hz
 ·exact mild_un
theorem mild_flight (e : Value) (f : Option Addr) : Mild (setFlight e f):=by
 unfold setFlight
 refine Mild.bind (mild_field _ _) fun tb=>?_
 split
 ·exact mild_setField _ _ _
 ·exact mild_pure
theorem mild_leaving (env : Env) (e : Value) : Mild (leaving env e):=Mild.bind (mild_note e env) fun _=>mild_flight e none
end L2
namespace L2
open PySem PySem.Spec PyProof.Rows
def DictIs (h : Heap) (e : Addr) (d : Option Addr) : Prop:=∀ x,d = some x -> ∃ oe,h.get? e = some oe /\ oe.dict = some x
theorem DictIs.none {h : Heap} {e : Addr} : DictIs h e none:=fun _ z=>by cases z
theorem DictIs.keep {h h' : Heap} {e : Addr} {d : Option Addr} (a : DictIs h e d) (k : DK h h') : DictIs h' e d:=fun x z=>by
 obtain ⟨oe,e1,e2⟩:=a x z
 obtain ⟨o',e3,e4⟩:=k e oe e1
 exact ⟨o',e3,e4.trans e2⟩
def CXY (P : Program) (w : World) : CXT:=fun outer H s E ev s'=>∃ e C d H',ev = .ref e /\ Fly P w outer H H' s s' e C /\ DictIs s'.heap e d /\ E C d H'
def forget (e : Addr) (H : Hp) : Hp:=fun b=>if b = e then none else H b
theorem forget_ne {e b : Addr} {H : Hp} (h : b ≠ e) : forget e H b = H b:=by unfold forget; rw [if_neg h]
theorem forget_self {e : Addr} {H : Hp} : forget e H e = none:=by unfold forget; rw [if_pos rfl]
section
variable {P : Program} {w : World} {K : PySem.W.Frag} {mg : Str -> Option Value} {base : Heap} {N : List Str} {qual : Str} {scope : Scope} {f : Addr} {cd : Value} {A : Around} {outer : List Env} {s₀ : Shared} {H₀ : Hp} {E : XK}
theorem cxx_cxy {l : List Env} {H : Hp} {s s' : Shared} {E1 : XK} {ev : Value} (h : CXX P w l H s E1 ev s') : CXY P w l H s E1 ev s':=by
 obtain ⟨e,C,H',a,b,c⟩:=h
 exact ⟨e,C,none,H',a,b,DictIs.none,c⟩
theorem liesY : Lies (cxOf (CXY P w) P w K mg base N qual scope f cd A outer s₀ H₀ E) E:=by
 intro pins σ H s h' e C vs I hx hE
 have J : Inv (cxOf (CXX P w) P w K mg base N qual scope f cd A outer s₀ H₀ E) pins σ H s:=I.wish _
 have z:=lies_def pins σ H s h' e C vs J hx hE
 exact wpAny_mono z (fun _ _ h=>cxx_cxy h) fun _ _ h=>cxx_cxy h
theorem lies_dict {pins : List (Addr × Obj)} {σ : St} {H : Hp} {s : Shared} {e C d : Addr} (I : Inv (cxOf (CXY P w) P w K mg base N qual scope f cd A outer s₀ H₀ E) pins σ H s) (he : H e = some (.ext (ExcAt e C (some d)))) (n0 : s₀.heap.get? e = none) (hE : E (.ref C) (some d) (forget e H)) :
  (cxOf (CXY P w) P w K mg base N qual scope f cd A outer s₀ H₀ E).xe (.ref e) s:=by
 show wpAny (model P w) (A.deeper (envOfC qual scope s₀.heap.objs.size f cd)) (leaving (envOfC qual scope s₀.heap.objs.size f cd) (.ref e)) _ _ s
 have stk:=I.stack
 obtain ⟨⟨t,et⟩,_⟩:=(show ObjOk P w H s.heap e (.ext (ExcAt e C (some d))) from I.hok e _ he)
 have hL : ∀ b o,s₀.heap.get? b = some o -> b ≠ s₀.heap.objs.size:=fun b o q=>Nat.ne_of_lt (Heap.lt_size q)
 have ne : e ∉ frs (envOfC qual scope s₀.heap.objs.size f cd :: outer):=fun z=>by
  have q : H e = none:=I.stkFree e z
  rw [he] at q
  cases q
 have out : ∀ b,b ∈ frs (envOfC qual scope s₀.heap.objs.size f cd :: outer) -> b = s₀.heap.objs.size ∨ b ∈ frs outer:=fun b hb=>by
  obtain ⟨ev,hv,hf⟩:=List.mem_filterMap.mp hb
  rcases List.mem_cons.mp hv with z | z
  ·subst z
   exact .inl (Option.some.inj hf).symm
  ·exact .inr (List.mem_filterMap.mpr ⟨ev,z,hf⟩)
 have old : ∀ b o,s₀.heap.get? b = some o -> b ≠ e:=fun b o q z=>by rw [z,n0] at q; cases q
 have notIn : ∀ b o,s₀.heap.get? b = some o -> b ∉ frs outer -> b ∉ e :: frs (envOfC qual scope s₀.heap.objs.size f cd :: outer):=fun b o q n z=>by
  rcases List.mem_cons.mp z with y | y
  ·exact old b o q y
  ·rcases out b y with y | y
   ·exact hL b o q y
   ·exact n y
 have stay : ∀ b o,s.heap.get? b = some o -> b ∉ e :: frs (envOfC qual scope s₀.heap.objs.size f cd :: outer) -> (PySem.W.hideAll s.heap (e :: frs (envOfC qual scope s₀.heap.objs.size f cd :: outer))).get? b = some o:=fun b o q n=>PySem.W.hideAll_get _ q n
 have hid : (PySem.W.hideAll s.heap (e :: frs (envOfC qual scope s₀.heap.objs.size f cd :: outer))).get? e = none:=PySem.W.hideAll_none _ List.mem_cons_self
 have S0 : wpAny (model P w) (A.deeper (envOfC qual scope s₀.heap.objs.size f cd)) (leaving (envOfC qual scope s₀.heap.objs.size f cd) (.ref e)) (fun _ s'=>∃ h',s' = { s with heap:=h' } /\ Heap.LeftW (PySem.W.hideAll s.heap (e :: frs (envOfC qual scope s₀.heap.objs.size f cd :: outer))) (envOfC qual scope s₀.heap.objs.size f cd :: outer) e (.ref C) (.ref t) s.heap h') (fun _ _=>False) s :=
  wpAny_leaving_firstW (a0:=.ref t) I.ok.frames (PySem.W.funFrames_hide stk fun ev hv b hb=>List.mem_cons_of_mem _ (List.mem_filterMap.mpr ⟨ev,hv,hb⟩)) rfl et (fun b o q=>PySem.W.of_hideAll _ q) hid rfl rfl rfl fun h' hl=>⟨h',rfl,hl⟩
 refine wpAny_mono (mild (mild_leaving _ _) S0) (fun _ s' ⟨⟨h2,es,hl⟩,dk⟩=>?_) fun _ _ z=>z.1.elim
 subst es
 obtain ⟨k1,⟨_,_,k2⟩,k3,k4⟩:=hl
 refine ⟨e,.ref C,some d,forget e H,rfl,⟨⟨_,_,⟨k1,hid,k2,k3⟩,fun b o q=>?_,fun b o q n nf=>?_,fun b o q nf=>?_⟩,I.os,I.bare,fun b o q n hf=>?_,fun b o q n=>?_,fun b xs q=>?_,fun b o u q=>?_,fun b ps q=>?_,forget_self,n0⟩,?_,hE⟩
 ·have nb : b ≠ e:=fun z=>by rw [z,forget_self] at q; cases q
  rw [forget_ne nb] at q
  refine (I.hok b o q).stay (fun c u hc r=>stay c u r fun z=>?_) (fun c r=>?_) fun c xs r=>?_
  ·rcases List.mem_cons.mp z with y | y
   ·rcases hc with x | x
    ·exact nb (x.symm.trans y)
    ·rw [y,he] at x; cases x
   ·have n : H c = none:=I.stkFree c y
    rcases hc with x | x
    ·rw [x,q] at n; cases n
    ·rw [n] at x; cases x
  ·rw [forget_ne (fun y=>by rw [y,he] at r; cases r)]; exact r
  ·rw [forget_ne (fun y=>by rw [y,he] at r; cases r)]; exact r
 ·exact stay b o (I.base.keep b o q n nf (by simp [cxOf])) (notIn b o q nf)
 ·obtain ⟨o',r⟩:=I.base.there b o q (by simp [cxOf])
  exact ⟨o',stay b o' r (notIn b o q nf)⟩
 ·obtain ⟨sl,r⟩:=I.base.slot b o q n hf (by simp [cxOf])
  have hb : b ∈ frs (envOfC qual scope s₀.heap.objs.size f cd :: outer):=by
   obtain ⟨ev,hv,hb⟩:=List.mem_filterMap.mp hf
   exact List.mem_filterMap.mpr ⟨ev,List.mem_cons_of_mem _ hv,hb⟩
  obtain ⟨o',ho',hd⟩:=frs_mem stk hb
  rw [r] at ho'
  cases ho'
  obtain ⟨sl',r'⟩:=k4 b _ r hd
  exact ⟨sl',r'⟩
 ·rw [forget_ne (old b o q)]
  exact I.base.free b o q n (by simp [cxOf])
 ·have z:=I.base.tups b xs q
  rw [forget_ne (fun y=>by rw [y,he] at z; cases z)]
  exact z
 ·have z:=I.base.frzs b o u q
  rw [forget_ne (fun y=>by rw [y,he] at z; cases z)]
  exact z
 ·obtain ⟨m,z⟩:=I.base.tbls b ps q
  exact ⟨m,by rw [forget_ne (fun y=>by rw [y,he] at z; cases z)]; exact z⟩
 ·intro x z
  cases z
  obtain ⟨o',e1,e2⟩:=dk e _ et
  exact ⟨o',e1,e2⟩
end
end L2
namespace L2
open PySem PySem.Spec PyProof.Rows
def excJ (K : PySem.W.Frag) (C : Addr) (bmB : List Value) (newId : String) : Bool:=match K.lookup C with
 | some ⟨.type "type",_,.cls k,z⟩=>(match k.mro,z.toList with
  | .ref D :: r,[_,_,_,_,some (.builtin n),_]=>D == C && n == newId && !k.hasDel && PySem.W.tailIn K bmB r
  | _,_=>false)
 | _=>false
theorem own_objJ {K : PySem.W.Frag} {h : Heap} {C : Addr} {bmB : List Value} {newId : String} (X : K.In h) (q : excJ K C bmB newId = true) :
  ∃ bm N nm qn bs hd sn sub ab col dd k0 k1 k2 k3 k5,h.get? C = some (excClassObj nm qn C N bs bm hd sn sub ab col dd k0 k1 k2 k3 k5 newId) /\ OwnTail h bmB bm:=by
 unfold excJ at q
 split at q
 case h_2=>cases q
 case h_1 dd cd sl ho =>
  split at q
  case h_2=>cases q
  case h_1 C' bm k0 k1 k2 k3 n k5 hm hs =>
   simp only [Bool.and_eq_true,beq_iff_eq,Bool.not_eq_true'] at q
   obtain ⟨⟨⟨e1,e2⟩,e3⟩,e4⟩:=q
   subst e1 e2
   have es : sl = #[k0,k1,k2,k3,some (.builtin n),k5]:=by
    cases sl with
    | mk l=>exact congrArg Array.mk hs
   subst es
   cases cd with
   | mk nm bs mro ns qn hd sn sub ab col del =>
    simp only at hm e3
    subst hm e3
    exact ⟨bm,ns,nm,qn,bs,hd,sn,sub,ab,col,dd,k0,k1,k2,k3,k5,X _ _ ho,PySem.W.tail_of_in X e4⟩
section
variable {prog : Program} {w : World} {A : Around} {E : Value -> Shared -> Prop} {h : Heap} {g : Array GenState} {d : Drawn} {t : Nat} {os : OsState}
variable {nm q : Str} {C N : Addr} {bs bm bmB : List Value} {hdct : Bool} {sn : List Str} {sub : List Value} {ab : Bool} {col : Option Bool} {dd : Option Addr} {k0 k1 k2 k3 k5 : Option Value} {B newId initId : String} {K : PySem.W.Frag} {f : Addr}
theorem tcallJ (F : ExcBaseFacts B newId initId bmB) (T : OwnTail h bmB bm) (X : K.In h) (hi : PySem.W.findIn K (.ref C) "__init__" = some (some (.ref f))) (hf : PySem.W.typeIn K (.ref f) = some (.type "function")) {rest : List Value} {Q : Fin -> Shared -> Prop}
  (hC : h.get? C = some (excClassObj nm q C N bs bm hdct sn sub ab col dd k0 k1 k2 k3 k5 newId)) (hz : rest.length <= sizeLine)
  (hq : ∀ t' h' e,h.objs.size <= e -> (∀ b o,h.get? b = some o -> h'.get? b = some o) -> h'.get? e = some (excObj C t' none) ->
   wpAny (model prog w) A (call (.ref f) (.ref e :: rest)) (fun r s'=>r = .none /\ Q (.done (.ret (.ref e))) s') E ⟨h',g,d,t,os⟩) :
  wpAny (model prog w) A (Builtin.«type.__call__» ⟨.ref C :: rest,[]⟩) Q E ⟨h,g,d,t,os⟩:=by
 repeat (first | with_reducible refine wpAny_madeBy_exc hC ?_ | with_reducible refine wpAny_loadPart_at hC ?_ | wp_step)
 refine codeAny_call_builtin_code (Code.quiet_builtin _ F.quiet) (wpAny_check_new_subT F T hC (codeAny_exc_new_subT F T hC ?_ hz))
 show wpAny _ _ _ _ _ _
 have kp : ∀ b o,h.get? b = some o -> ((h.push { cls:=.type "tuple",data:=.seq rest.toArray }).push (excObj C h.objs.size none)).get? b = some o:=fun b o e=>Heap.get?_push_of_some _ (Heap.get?_push_of_some _ e)
 have he : ((h.push { cls:=.type "tuple",data:=.seq rest.toArray }).push (excObj C h.objs.size none)).get? (h.objs.size + 1) = some (excObj C h.objs.size none):=by
  have:=Heap.get?_push_size (h.push { cls:=.type "tuple",data:=.seq rest.toArray }) (o:=excObj C h.objs.size none) rfl
  rwa [Heap.size_push] at this
 show wpAny _ _ _ _ _ ⟨(h.push { cls:=.type "tuple",data:=.seq rest.toArray }).push (excObj C h.objs.size none),g,d,t,os⟩
 have hq':=hq h.objs.size _ (h.objs.size + 1) (Nat.le_succ _) kp he
 have hC1:=kp _ _ hC
 have X1 : K.In ((h.push { cls:=.type "tuple",data:=.seq rest.toArray }).push (excObj C h.objs.size none)):=X.keeps kp
 generalize (h.push { cls:=.type "tuple",data:=.seq rest.toArray }).push (excObj C h.objs.size none) = h1 at he hC1 X1 hq' ⊢
 have hcC : (Value.ref C :: bm).contains (.ref C) = true:=by simp
 unfold isInstance
 repeat (first | with_reducible refine wpAny_loadPart_at he ?_ | (with_reducible refine wpAny_isSubtype_exc hC1 ?_; rw [hcC]) | wp_step)
 show wpAny _ _ (isSubtype (.ref C) (.ref C)) _ _ _
 refine wpAny_isSubtype_exc hC1 ?_
 rw [hcC]
 show wpAny _ _ (_ >>= _) _ _ _
 refine wpAny_bind (wpAny_holding ?_)
 unfold callSpecial? specialOf
 have L0 : PySem.W.Looks (model prog w) h1 (typeOf (.ref (h.objs.size + 1))) (.ref C):=looks_cls he rfl
 refine wpAny_bind (wpAny_bind (L0.at ((PySem.W.looks_findIn X1 hi).at ?_)))
 refine wpAny_holding (wpAny_bind ((PySem.W.bind_fn X1 _ hf).at (wpAny_bind (wpAny_mono hq' (fun r s' hr=>?_) fun _ _ x=>x))))
 obtain ⟨rfl,hQ⟩:=hr
 exact wpAny_pure (wpAny_pure hQ)
theorem callJ (F : ExcBaseFacts B newId initId bmB) (T : OwnTail h bmB bm) (X : K.In h) (hi : PySem.W.findIn K (.ref C) "__init__" = some (some (.ref f))) (hf : PySem.W.typeIn K (.ref f) = some (.type "function")) {rest : List Value} {Q : Value -> Shared -> Prop}
  (hC : h.get? C = some (excClassObj nm q C N bs bm hdct sn sub ab col dd k0 k1 k2 k3 k5 newId)) (hz : rest.length <= sizeLine)
  (hq : ∀ t' h' e,h.objs.size <= e -> (∀ b o,h.get? b = some o -> h'.get? b = some o) -> h'.get? e = some (excObj C t' none) ->
   wpAny (model prog w) (A.under (.builtin "type.__call__" ⟨.ref C :: rest,[]⟩)) (call (.ref f) (.ref e :: rest)) (fun r s'=>r = .none /\ Q (.ref e) s') E ⟨h',g,d,t,os⟩) :
  wpAny (model prog w) A (call (.ref C) rest) Q E ⟨h,g,d,t,os⟩:=by
 have f1:=tc_lookup
 have f2:=tc_bind (.ref C)
 have hT : (⟨h,g,d,t,os⟩ : Shared).TypeIs (.ref C) "type":=⟨_,hC,rfl⟩
 refine wpAny_call (codeAny_of_tree ?_)
 show wpAny _ _ (callAny (.ref C) _) _ _ _
 repeat (any_goals (first | with_reducible refine wpAny_loadPart_at hC ?_ | assumption | wp_step))
 exact ⟨rfl,codeAny_call_builtin_at (Code.quiet_builtin _ (by decide +kernel)) entry_typeCall (wpAny_check_type_call_sub hC (tcallJ F T X hi hf hC hz hq))⟩
end
section
variable {M : Model} {A : Around} {E : Value -> Shared -> Prop} {env : Env} {s : Shared}
variable {nm q : Str} {C N : Addr} {bs bm : List Value} {hdct : Bool} {sn : List Str} {sub : List Value} {ab : Bool} {col : Option Bool} {dd : Option Addr} {k0 k1 k2 k3 k5 : Option Value} {newId : String}
theorem raiseJ {x : Sem Value} {Q : Flow -> Shared -> Prop} (hB : bm.contains (.type "BaseException") = true) (hh : A.handled = none)
  (h : wpAny M A x (fun v s₁=>∃ e t d,v = .ref e /\ s₁.heap.get? C = some (excClassObj nm q C N bs bm hdct sn sub ab col dd k0 k1 k2 k3 k5 newId) /\ s₁.heap.get? e = some (excObj C t d) /\ E (.ref e) s₁) E s) :
  wpAny M A (raiseStmt env (some x) none) Q E s:=by
 have hcB : (Value.ref C :: bm).contains (.type "BaseException") = true:=by rw [List.contains_cons,hB]; exact Bool.or_true _
 unfold raiseStmt
 refine wpAny_bind (wpAny_mono h (fun v s₁ h₁=>?_) fun _ _ x=>x)
 obtain ⟨e,t,d,rfl,hC,he,hE⟩:=h₁
 obtain ⟨hp,gg,dr,tk,os⟩:=s₁
 unfold excObj at he
 repeat (first | with_reducible refine wpAny_loadPart_at hC ?_ | with_reducible refine wpAny_loadPart_at he ?_ | (with_reducible refine wpAny_isSubtype_exc hC ?_; rw [hcB]) | wp_step)
 exact wpAny_raiseNew_none hh hE
end
section
variable {prog : Program} {w : World} {A : Around} {E : Value -> Shared -> Prop} {s : Shared} {env : Env}
variable {nm q : Str} {C N : Addr} {bs bm bmB : List Value} {hdct : Bool} {sn : List Str} {sub : List Value} {ab : Bool} {col : Option Bool} {dd : Option Addr} {k0 k1 k2 k3 k5 : Option Value} {B newId initId : String} {K : PySem.W.Frag} {f : Addr}
theorem stmtJ (F : ExcBaseFacts B newId initId bmB) {x : Str} {np cpos pos : Pos} {args : List Expr} {Q : Flow -> Shared -> Prop}
  (hB : bm.contains (.type "BaseException") = true) (hh : A.handled = none) (hp : (backTo cpos (starEach args env)).any (·.1) = false) (hi : PySem.W.findIn K (.ref C) "__init__" = some (some (.ref f))) (hf : PySem.W.typeIn K (.ref f) = some (.type "function"))
  (h : wpAny (model prog w) A (eval (.Name x np) env) (fun v s₁=>v = .ref C /\ wpAny (model prog w) A (evalArgs (.ref C) true (backTo cpos (starEach args env)) [])
   (fun a s₂=>a.kw = [] /\ a.pos.length <= sizeLine /\ s₂.heap.get? C = some (excClassObj nm q C N bs bm hdct sn sub ab col dd k0 k1 k2 k3 k5 newId) /\ K.In s₂.heap /\ OwnTail s₂.heap bmB bm /\
    ∀ t' h' e,s₂.heap.objs.size <= e -> (∀ b o,s₂.heap.get? b = some o -> h'.get? b = some o) -> h'.get? e = some (excObj C t' none) ->
     wpAny (model prog w) (A.under (.builtin "type.__call__" ⟨.ref C :: a.pos,[]⟩)) (call (.ref f) (.ref e :: a.pos)) (fun r s'=>r = .none /\ s'.heap.get? C = some (excClassObj nm q C N bs bm hdct sn sub ab col dd k0 k1 k2 k3 k5 newId) /\ (∃ t d,s'.heap.get? e = some (excObj C t d)) /\ E (.ref e) s') E { s₂ with heap:=h' }) E s₁) E s) :
  wpAny (model prog w) A (exec (.Raise (some (.Call (.Name x np) args [] cpos)) none pos) env) Q E s:=by
 rw [arm_exec_Raise]
 have hx : wpAny (model prog w) A (eval (.Call (.Name x np) args [] cpos) env) (fun v s₁=>∃ e t d,v = .ref e /\ s₁.heap.get? C = some (excClassObj nm q C N bs bm hdct sn sub ab col dd k0 k1 k2 k3 k5 newId) /\ s₁.heap.get? e = some (excObj C t d) /\ E (.ref e) s₁) E s:=by
  refine wpAny_Call_ofName (wpAny_mono h (fun v s₁ h₁=>?_) fun _ _ x=>x)
  obtain ⟨rfl,h₁⟩:=h₁
  unfold callWith
  refine wpAny_bind (wpAny_holding (wpAny_mono h₁ (fun a s₂ h₂=>wpAny_bind (wpAny_standAt ?_)) fun _ _ x=>x))
  obtain ⟨apos,akw⟩:=a
  obtain ⟨hkw,hlen,hC,hK,T,h₂⟩:=h₂
  obtain rfl : akw = []:=hkw
  obtain ⟨hh2,g,d,tk,os⟩:=s₂
  simp only [hp]
  refine wpAny_bind (wpAny_keeperOf_exc hC ?_)
  refine wpAny_bind (callJ F T hK hi hf hC hlen fun t' h' e a1 a2 a3=>wpAny_mono (h₂ t' h' e a1 a2 a3) (fun r s' hr=>⟨hr.1,wpAny_bind (wpAny_holding (wpAny_point (wpAny_pure ?_)))⟩) fun _ _ x=>x)
  obtain ⟨_,b1,⟨t,d,b2⟩,b3⟩:=hr
  exact ⟨e,t,d,rfl,b1,b2,b3⟩
 refine wpAny_bind (wpAny_standAt (raiseJ (C:=C) (nm:=nm) (q:=q) (N:=N) (bs:=bs) (bm:=bm) (hdct:=hdct) (sn:=sn) (sub:=sub) (ab:=ab) (col:=col) (dd:=dd) (k0:=k0) (k1:=k1) (k2:=k2) (k3:=k3) (k5:=k5) (newId:=newId) hB hh ?_))
 exact wpAny_bind (wpAny_mono hx (fun v s₃ h₃=>wpAny_bind (wpAny_standAt (wpAny_pure h₃))) fun _ _ x=>x)
end
end L2
namespace L2
open PySem PySem.Spec PyProof.Rows
def LiesD (X : Cx) (E : XK) : Prop:=∀ (pins : List (Addr × Obj)) (σ : St) (H : Hp) (s : Shared) (e C d : Addr),Inv X pins σ H s -> H e = some (.ext (ExcAt e C (some d))) -> X.s₀.heap.get? e = none -> E (.ref C) (some d) (forget e H) -> X.xe (.ref e) s
structure MkX (K : PySem.W.Frag) (C f : Addr) (bmB : List Value) (newId : String) : Prop where
 ex : excJ K C bmB newId = true
 init : PySem.W.findIn K (.ref C) "__init__" = some (some (.ref f))
 fn : PySem.W.typeIn K (.ref f) = some (.type "function")
def tRaiseI (C : Addr) (E : XK) (sp : Sp) (t : TA) : TS:=fun _ σ H=>t σ H fun vs H1=>vs.length <= sizeLine /\ ∀ e,H1 e = none ->
 sp (.ref e :: vs) (upd H1 e (.ext (ExcAt e C none))) (fun v H2=>v = .non /\ ∃ d,H2 e = some (.ext (ExcAt e C (some d))) /\ E (.ref C) (some d) (forget e H2)) E0
theorem ps_raiseI {X : Cx} {E : XK} {x : Str} {C f : Addr} {bmB : List Value} {B newId initId : String} {e₀ : Expr} {rest : List Expr} {np cpos pos : Pos} {t : TA} {CX : CXT} {k : Nat} {fd : FuncData} {ps : List Str} {sp : Sp} (hL : LiesD X E) (hc : X.calm = true) (hg : Gl X x) (hm : X.mg x = some (.ref C)) (M : MkX X.K C f bmB newId)
  (FB : ExcBaseFacts B newId initId bmB) (F : FnOk X.prog X.w X.K X.mg X.base CX k f fd ps sp) (hr : Room (k + 1) X.A) (hb : Binds X.K fd ps []) (hx : Passes CX X E0) (ha : PA X (e₀ :: rest) t) (hd : (x == ("__debug__" : Str)) = false:=by decide) (he : starEach (e₀ :: rest) X.env = (false,eval e₀ X.env) :: starEach rest X.env:=by rfl)
  (hpl : (backTo cpos (starEach rest X.env)).any (·.1) = false:=by rfl) : PS X (.Raise (some (.Call (.Name x np) (e₀ :: rest) [] cpos)) none pos) (tRaiseI C E sp t):=by
 intro pins s σ H D I h
 obtain ⟨bm,N,nm,qn,bs,hdc,sn,sub,ab,col,dd,k0,k1,k2,k3,k5,hC,T⟩:=own_objJ I.mod.kin M.ex
 refine stmtJ (C:=C) (nm:=nm) (q:=qn) (N:=N) (bs:=bs) (bm:=bm) (hdct:=hdc) (sn:=sn) (sub:=sub) (ab:=ab) (col:=col) (dd:=dd) (k0:=k0) (k1:=k1) (k2:=k2) (k3:=k3) (k5:=k5) (K:=X.K) (f:=f) FB (T.hasType FB.hasBase) (I.ok.hd hc)
  (by rw [he]; show (false || (backTo cpos (starEach rest X.env)).any (·.1)) = false; rw [hpl]; rfl) M.init M.fn (ld_glob I hg hm ⟨rfl,?_⟩ hd)
 have hA:=ha cpos pins s σ H _ I h
 rw [he] at hA ⊢
 refine Calls.evalArgs_plain (thn hA fun us s1 ⟨vs,H1,I1,r,hz,hE⟩=>?_)
 refine ⟨rfl,by rw [<- r.length]; exact hz,I1.bk _ _ hC,I1.kIn,T.keeps I1.bk,fun t' h' e a1 a2 a3=>?_⟩
 have I2:=I1.laid (a:=e) (o:=.ext (ExcAt e C none)) (h':=h') (t':=s1.toks) a2 a1 ⟨⟨t',a3⟩,⟨_,a3⟩,ExcAt.stays⟩
 have hq:=hE e (I1.hok.fresh a1)
 have r2 : Vals (V.ref e :: vs) (Value.ref e :: us):=.cons rfl r
 have hl : (Value.ref e :: us).length = ps.length:=by rw [<- r2.length]; exact F.len _ _ _ _ hq
 have hbb:=hb { s1 with heap:=h' } (Value.ref e :: us) I2.kIn (by rw [List.append_nil]; exact hl)
 rw [List.append_nil] at hbb
 refine wpAny_call (codeAny_mono (F.run _ X.stack _ _ ⟨Value.ref e :: us,[]⟩ (Value.ref e :: us) _ _ E0 (hr.make C us []) (I2.env0.make C us []) hbb r2 hq) fun r s' hq'=>?_)
 cases r with
 | error e'=>exact hx pins σ _ _ e' s' I2 hq'
 | ok fl =>
  cases fl with
  | ret u =>
   obtain ⟨v,H',I3,rv,ev,d,hd1,hE2⟩:=I2.after hq'
   subst ev
   obtain ⟨⟨t3,e3⟩,_⟩:=(show ObjOk X.prog X.w H' s'.heap e (.ext (ExcAt e C (some d))) from I3.hok e _ hd1)
   exact ⟨rv,I3.bk _ _ hC,⟨t3,_,e3⟩,hL pins σ H' s' e C d I3 hd1 (Heap.get?_none_of_le (Nat.le_trans I1.sz a1)) hE2⟩
  | next=>exact False.elim hq'
  | brk=>exact False.elim hq'
  | cont=>exact False.elim hq'
section
variable {P : Program} {w : World} {K : PySem.W.Frag} {mg : Str -> Option Value} {base : Heap} {N : List Str} {qual : Str} {scope : Scope} {f : Addr} {cd : Value} {A : Around} {outer : List Env} {s₀ : Shared} {H₀ : Hp} {E : XK}
theorem lies_dictD : LiesD (cxOf (CXY P w) P w K mg base N qual scope f cd A outer s₀ H₀ E) E:=fun _ _ _ _ _ _ _ I he n hE=>lies_dict I he n hE
theorem passY {CX : CXT} (h : ∀ l H s ev s',¬ CX l H s E0 ev s') {X : Cx} : Passes CX X E0:=fun _ _ H s e s' _ z=>absurd z (h _ H s e s')
theorem noX {P : Program} {w : World} (l : List Env) (H : Hp) (s : Shared) (ev : Value) (s' : Shared) : ¬ CXX P w l H s E0 ev s':=fun ⟨_,_,_,_,_,z⟩=>z
end
end L2
namespace L2
open PySem PySem.Spec PyProof.Rows
def IsExcD (e C : Addr) (d : Option Addr) (h : Heap) : Prop:=∃ o vs,h.get? e = some o /\ o.cls = .ref C /\ o.data = .fields vs /\ ∀ x,d = some x -> o.dict = some x
theorem IsExcD.stays {e C : Addr} {d : Option Addr} : ∀ h1 h2 : Heap,IsExcD e C d h1 -> (∀ o,h1.get? e = some o -> h2.get? e = some o) -> IsExcD e C d h2:=fun _ _ ⟨o,vs,a,b⟩ k=>⟨o,vs,k o a,b⟩
def tTryY (K : PySem.W.Frag) (n i : Nat) (Ex : XK) (cv : Value) (tb ts : TS) : TS:=fun D σ H =>
 (∀ (C : Value) (d : Option Addr) (H' : Hp) (σ' : St) (e : Addr),Ex C d H' -> σ'.length = n -> H' e = none -> ∃ Ca,C = .ref Ca /\ PySem.W.exmOne K C cv = some true /\
  ts { nx:=fun σ2 H2=>D.nx (σ2.set i none) H2,rt:=D.rt,bk:=fun σ2 H2=>D.bk (σ2.set i none) H2,ct:=fun σ2 H2=>D.ct (σ2.set i none) H2 } (σ'.set i (some (.ref e))) (upd H' e (.ext (IsExcD e Ca d)))) /\ tb D σ H
section
variable {X : Cx}
theorem ps_tryY {Ex : XK} {body suite : List Stmt} {b₀ : Stmt} {x n : Str} {i : Nat} {np hpos pos : Pos} {cv : Value} {tb ts : TS} (hstk : X.stack = X.env :: X.outer) (hfr : X.env.frame = some X.env.locals) (hg : Gl X x) (hm : X.mg x = some cv)
  (hN : X.N.Nodup) (hi : X.N[i]? = some n) (hk : X.env.scope.names.lookup n = some .local) (hex : X.ex = [])
  (hb : ∀ pn E',Passes (CXY X.prog X.w) (X.inTry pn E') Ex -> PSs (X.inTry pn E') body tb) (hs : ∀ e,PSs (X.inSuite e) (b₀ :: suite) ts) (hd : (x == ("__debug__" : Str)) = false:=by decide) :
  PS X (.Try body [.ExceptHandler (some (.Name x np)) (some n) (b₀ :: suite) hpos] [] [] pos) (tTryY X.K X.N.length i Ex cv tb ts):=by
 intro pins s σ H D I h
 obtain ⟨hh,ht⟩:=h
 refine wpAny_Try_except ?_
 have I1:=I.inTry (fun e s₁=>wpAny (model X.prog X.w) X.A (noteFrame e X.env) (fun _ s₂=>wpAny (model X.prog X.w) X.A (setFlight e none) (fun _ s₃=>wpAny (model X.prog X.w) X.A (handleBy e X.env [.ExceptHandler (some (.Name x np)) (some n) (b₀ :: suite) hpos]) (SP X pins D) X.xe s₃) X.xe s₂) X.xe s₁)
 refine thn (hb _ _ ?_ [] s σ H D I1 ht) fun f s1 q=>?_
 ·intro pins' σ' H1 s1 ev s2 J hx
  obtain ⟨e,C,d,H2,rfl,F,hdi,q⟩:=hx
  have J' : Inv X pins σ' H1 s1:=Inv.ofTry I.ok J
  have F : Fly X.prog X.w X.stack H1 H2 s1 s2 e C:=F
  obtain ⟨B,a0,fl,okB,c1,c2⟩:=F.fl
  have fl':=fl
  rw [hstk] at fl'
  show wpAny (model X.prog X.w) X.A (noteFrame (.ref e) X.env) _ X.xe s2
  refine wpAny_mono (mild (mild_note _ _) (wpAny_looks_onW (E:=X.xe) (Q:=fun _ s'=>∃ h3,s' = { s2 with heap:=h3 } /\ Heap.HeldW B (X.env :: X.outer) e C a0 X.env.locals h3 /\ s2.heap.UpToSlots h3) (by rw [I.ok.frames,hstk]) hfr fl' fun h3 held up3=>⟨h3,rfl,held,up3⟩)) (fun _ s3 ⟨⟨h3,es3,held,up3⟩,dk3⟩=>?_) fun _ _ z=>z.1
  subst es3
  refine wpAny_mono (mild (mild_flight _ _) (wpAny_landsW (E:=X.xe) (Q:=fun _ s'=>∃ h4,s' = { s2 with heap:=h4 } /\ Heap.FlyingW B (X.env :: X.outer) e C a0 h4 /\ h3.UpToSlots h4) held fun h4 fl4 up4=>⟨h4,rfl,fl4,up4⟩)) (fun _ s4 ⟨⟨h4,es4,fl4,up4⟩,dk4⟩=>?_) fun _ _ z=>z.1
  subst es4
  obtain ⟨Ca,rfl,hmt,hts⟩:=hh C d H2 σ' e q J.len F.new.1
  have I4 : Inv X pins σ' H2 { s2 with heap:=h4 }:=J'.land (t':=s2.toks) F fl okB c1 c2 fl4.1 (up3.trans up4)
  obtain ⟨ob,hob,hoc⟩:=fl4.there
  refine wpAny_handleBy_cons (codeAny_handlers_test (ld_glob (I4.inSuite e) hg hm ?_ hd)) (by intro z; cases z)
  refine (PySem.W.exm_one I4.kIn (cls:=.ref Ca) (hoc ▸ looks_type hob) hmt).here ?_
  refine codeAny_handlers_suite_as ?_
  refine wpAny_mono (mild (mild_flight _ _) (lands_againW (Q:=fun _ s'=>∃ h5,s' = { s2 with heap:=h5 } /\ Heap.FlyingW B (X.env :: X.outer) e (.ref Ca) a0 h5 /\ h4.UpToSlots h5) fl4 fun h5 fl5 up5=>⟨h5,rfl,fl5,up5⟩)) (fun _ s5 ⟨⟨h5,es5,fl5,up5⟩,dk5⟩=>?_) fun _ _ z=>z.1
  subst es5
  have I5 : Inv X pins σ' H2 { s2 with heap:=h5 }:=J'.land (t':=s2.toks) F fl okB c1 c2 fl5.1 ((up3.trans up4).trans up5)
  have hdi5 : DictIs h5 e d:=((hdi.keep dk3).keep dk4).keep dk5
  obtain ⟨ob5,vs5,hob5,hoc5,hdt5,_⟩:=fl5.first
  have old : ∀ b o,s1.heap.get? b = some o -> b ≠ e:=fun b o r z=>by rw [z,F.new.2] at r; cases r
  have n0 : X.s₀.heap.get? e = none:=by
   cases r : X.s₀.heap.get? e with
   | none=>rfl
   | some o =>
    obtain ⟨o',r'⟩:=J'.base.there e o r (by rw [hex]; simp)
    exact absurd rfl (old e o' r')
  have isx : IsExcD e Ca d h5:=⟨ob5,vs5,hob5,hoc5,hdt5,fun y z=>by
   obtain ⟨o',r1,r2⟩:=hdi5 y z
   rw [hob5] at r1
   cases r1
   exact r2⟩
  have I6 : Inv X pins σ' (upd H2 e (.ext (IsExcD e Ca d))) { s2 with heap:=h5 }:=by
   refine I5.seen (o:=ob5) F.new.1 hob5 isx IsExcD.stays n0 ?_ ?_ ?_ ?_
   ·obtain ⟨m,⟨o',_,_,ho',_⟩,_⟩:=J'.loc
    exact Ne.symm (old _ _ ho')
   ·intro y c r
    obtain ⟨v,o',ho',_⟩:=J'.cell y c r
    exact old _ _ ho'
   ·intro p hp
    exact old _ _ (J'.pin p hp).1
   ·cases r : X.base.get? e with
    | none=>rfl
    | some o=>exact absurd rfl (old e o (J'.bk e o r))
  refine store_ok I6 hN hi (.inl hk) (v:=.ref e) rfl (fun s7 I7=>?_) (.inr hk)
  refine thnF (hs e pins s7 _ _ _ (I7.inSuite e) hts) fun f s8 q8=>?_
  have q9:=SP.ofSuite I.ok q8
  cases f with
  | next=>obtain ⟨σ9,H9,I9,q9⟩:=q9; exact name_goes I9 hN hi hk fun s' I'=>⟨_,H9,I',q9⟩
  | brk=>obtain ⟨σ9,H9,I9,q9⟩:=q9; exact name_goes I9 hN hi hk fun s' I'=>⟨_,H9,I',q9⟩
  | cont=>obtain ⟨σ9,H9,I9,q9⟩:=q9; exact name_goes I9 hN hi hk fun s' I'=>⟨_,H9,I',q9⟩
  | ret u=>obtain ⟨v,σ9,H9,I9,r9,q9⟩:=q9; exact name_goes I9 hN hi hk fun s' I'=>⟨v,_,H9,I',r9,q9⟩
 ·have q' : SP X pins D f s1:=SP.ofTry I.ok q
  cases f with
  | next=>exact wpAny_execs_nil q'
  | brk=>exact q'
  | cont=>exact q'
  | ret u=>exact q'
end
end L2
namespace L2
open PySem PySem.Spec PyProof.Rows
section
variable {X : Cx}
def rIsiY (K : PySem.W.Frag) : List V -> Hp -> VK -> Prop:=fun xs H Q=>∃ e C d c cv b,xs = [.ref e,c] /\ H e = some (.ext (IsExcD e C d)) /\ clsV c = some cv /\ XCls K C /\ PySem.W.kitOne K (.ref C) cv = some b /\ Q (.bl b) H
theorem call_isiY : CallR X (.builtin "isinstance") (rIsiY X.K):=by
 intro pins s σ H xs us Q I r h
 obtain ⟨e,C,d,c,cv,b,rfl,he,hc,T,k,q⟩:=h
 obtain ⟨u,w',rfl,rx,rc⟩:=vals2 r
 cases rx
 have ec : w' = cv:=by
  cases c with
  | ty n=>cases hc; exact rc
  | ref a=>cases hc; exact rc
  | _=>cases hc
 subst ec
 obtain ⟨⟨o,_,h1,h2,_⟩,_⟩:=(show ObjOk X.prog X.w H s.heap e (.ext (IsExcD e C d)) from I.hok e _ he)
 exact PySem.W.kia_one (kitx_exc T) I.kIn ⟨o,h1,h2⟩ k (fun z=>nomatch z) fun tk=>⟨.bl b,H,I.tok _,rfl,q⟩
end
section
variable {prog : Program} {w : World} {A : Around} {E : Value -> Shared -> Prop} {s : Shared} {K : PySem.W.Frag} {x C d : Addr} {ox : Obj} {vs : Array Value} {f : Str} {v : Value} {mA : Str -> Option Value}
open PySem.W PySem.Builtin PySem.Builtin.ObjectAttr in
theorem find_own {M : Model} {h : Heap} (X : K.In h) (nm : PySem.W.findIn K (.ref C) f = some none) (hd : PySem.W.hasDictIn K C = true) (ho : h.get? x = some ox) (hc : ox.cls = .ref C) (hdt : ox.data = .fields vs) (hdi : ox.dict = some d) (hn : h.Ns d mA) (hv : mA f = some v) :
  PySem.W.Looks M h (find (.ref x) (.ref C) f) (.value v):=by
 refine (PySem.W.looks_findIn X nm).andThen (Looks.now.andThen (Looks.now.andThen ?_))
 obtain ⟨cd,hcd,hhd⟩:=any_some hd
 intro A' Q' E' s' k q
 have ho':=k _ _ ho
 obtain ⟨oc,od,odt,osl⟩:=ox
 dsimp only at hc hdt hdi
 subst hc hdt hdi
 have hn' : s'.heap.Ns d mA:=hn.keeps k
 show wpAny _ _ (ownThenClass (.ref x) f none none) _ _ _
 unfold ownThenClass inOwnDict PySem.Builtin.ObjectAttr.ownDict loadHead
 refine wpAny_bind (wpAny_bind (wpAny_bind (wpAny_loadPart ho' ?_)))
 show wpAny _ _ (instanceDict x false) _ _ _
 unfold instanceDict
 refine wpAny_bind (wpAny_loadPart ho' (wpAny_bind (((looks_clsIn X hcd).keeps k).here ?_)))
 rw [hhd]
 refine wpAny_pure ?_
 show wpAny _ _ (nsGet d f) _ _ _
 refine wpAny_nsGet hn' ?_
 rw [hv]
 exact wpAny_bind (wpAny_rule (wpAny_pure q))
open PySem.W PySem.Builtin PySem.Builtin.ObjectAttr in
theorem exc_get {Q : Value -> Shared -> Prop} (X : K.In s.heap) (T : XCls K C) (nm : PySem.W.findIn K (.ref C) f = some none) (hd : PySem.W.hasDictIn K C = true) (ho : s.heap.get? x = some ox) (hc : ox.cls = .ref C) (hdt : ox.data = .fields vs) (hdi : ox.dict = some d) (hn : s.heap.Ns d mA) (hv : mA f = some v) (hh : handedOut v = pure v)
  (h : Q v { s with toks:=s.toks + 1 }) : wpAny (model prog w) A (getAttr (.ref x) f true) Q E s:=by
 obtain ⟨hp,g,dr,t,os⟩:=s
 have L0 : Looks (model prog w) hp (typeOf (.ref x)) (.ref C):=looks_cls ho hc
 have L1:=looks_findIn (M:=model prog w) X T.ga
 have L2:=looks_findIn (M:=model prog w) X T.gt
 have L3:=find_own (M:=model prog w) X nm hd ho hc hdt hdi hn hv
 have L4 : Looks (model prog w) hp (isInstance (.ref x) (.type "BaseException")) true:=L0.andThen (looks_mroIn X T.be)
 have bnd:=PySem.F.attr_ValueError.ga.bind (.ref x)
 unfold getAttr getAttrBy
 refine wpAny_bind (wpAny_mkText (wpAny_holding (wpAny_bind (L0.at (wpAny_bind (L1.at ?_))))))
 have hx2 : (Value.builtin "BaseException.__getattribute__" == Value.builtin "object.__getattribute__") = false:=by decide +kernel
 show wpAny _ _ (if (onTheHeap (Value.ref C) && (Value.builtin "BaseException.__getattribute__" == Value.builtin "object.__getattribute__")) = true then _ else _) _ _ _
 rw [hx2,Bool.and_false,if_neg Bool.false_ne_true]
 unfold getAttrByItsOwn hookBefore
 refine wpAny_bind ?_
 show wpAny _ _ (typeLookup (Value.ref C) "__getattr__") _ _ _
 refine L2.at (wpAny_bind (wpAny_attempt (wpAny_holding ?_)))
 show wpAny _ _ (boundAndCalled (Value.builtin "BaseException.__getattribute__") (Value.ref x) _) _ _ _
 unfold boundAndCalled
 rw [bnd]
 refine wpAny_bind (wpAny_pure (wpAny_call ?_))
 show codeAny _ _ (.call (.builtin "BaseException.__getattribute__") ⟨[.ref x,.str f t],[]⟩) _ _
 have hargs:=F.args_bexc_ga (.ref x) (.str f t)
 refine codeAny_call_builtin PySem.F.attr_ValueError.ga.plain F.entry_bexc_ga ?_
 refine @check_slot _ _ _ _ _ "BaseException" "__getattribute__" (.ref x) [.str f t] [] _ (by decide +kernel) (by decide +kernel) L4 hargs ?_
 show wpAny _ _ (Builtin.«object.__getattribute__» _) _ _ _
 unfold Builtin.«object.__getattribute__»
 repeat (first | with_reducible refine L0.at ?_ | with_reducible refine L3.at ?_ | wp_step)
 exact h
end
def tXfld (K : PySem.W.Frag) (ta : TE) (f : Str) : TE:=fun σ H Q=>ta σ H fun x H1=>∃ a C d fs v,x = .ref a /\ H1 a = some (.ext (IsExcD a C (some d))) /\ XCls K C /\ NoAttr K C f /\ PySem.W.hasDictIn K C = true /\ H1 d = some (.xd fs) /\ fs.lookup f = some v /\ Q v H1
theorem pe_xfld {X : Cx} {e : Expr} {f : Str} {pos : Pos} {ta : TE} (he : PE X e ta) (hb : attributeBase e f X.env (eval e X.env) = eval e X.env) : PE X (.Attribute e f pos) (tXfld X.K ta f):=by
 intro pins s σ H Q I h
 refine attr_of hb (thn (he pins s σ H _ I h) fun u s1 ⟨x,H1,I1,rx,a,C,d,fs,v,ex,ea,c,n,hd,exd,l,q⟩=>?_)
 subst ex
 obtain rfl : u = Value.ref a:=rx
 obtain ⟨⟨o,vs,h1,h2,h3,h4⟩,_⟩:=(show ObjOk X.prog X.w H1 s1.heap a (.ext (IsExcD a C (some d))) from I1.hok a _ ea)
 obtain ⟨mA,hn,hr⟩:=(show ObjOk X.prog X.w H1 s1.heap d (.xd fs) from I1.hok d _ exd)
 have r:=hr f
 rw [l] at r
 obtain ⟨u',eu,ru⟩:=RelO.some_of r
 exact exc_get I1.kIn c n hd h1 h2 h3 (h4 d rfl) hn.ns eu (PySem.W.handedOut_of (handed_of ru)) ⟨v,H1,I1.tok _,ru,q⟩
end L2
namespace L2
open PySem PySem.Spec PyProof.Rows
theorem pf_int {X : Cx} {t : St -> Hp -> Prop} {e : Expr} {pos : Pos} {te : TE} (hv : PE X e te) (ht : ∀ σ H,t σ H -> te σ H fun v H'=>∃ i : Int,v = .int i /\ i.natAbs.log2 < 1920 /\ H' = H) : PF X (.FormattedValue e (-1) none pos) 1921 t:=by
 intro pins s σ H I h
 refine wpAny_FormattedValue_plain (thn (hv pins s σ H _ I (ht σ H h)) fun v s1 ⟨y,H1,I1,r1,i,e1,e2,e3⟩=>?_)
 subst e1 e3
 obtain ⟨tk,rfl⟩:=r1
 exact wpAny_formatField_int e2 ⟨_,_,rfl,PyProof.Rows.int_text_len_1921 e2,I1.tok _⟩
section
variable {P : Program} {w : World} {K : PySem.W.Frag} {mg : Str -> Option Value} {base : Heap} {f : Addr}
theorem pe_dY {CX : CXT} {N : List Str} {qual : Str} {scope : Scope} {cd : Value} {A : Around} {outer : List Env} {s₀ : Shared} {H₀ : Hp} {E : XK} {k k' : Nat} {x : Str} {ps : List Str} {sp : Sp} {p pos : Pos} {e : Expr} {es : List Expr} {t : TA}
  (G : Def P w K mg base CX k x ps sp) (hn : ∀ l H s ev s',¬ CX l H s E0 ev s') (hr : Room k' (A.deeper (PyProof.Rows.envOfC qual scope s₀.heap.objs.size f cd))) (hk : k <= k') (ha : PA (cxOf (CXY P w) P w K mg base N qual scope f cd A outer s₀ H₀ E) (e :: es) t) (hg : Gl (cxOf (CXY P w) P w K mg base N qual scope f cd A outer s₀ H₀ E) x:=by rfl) (hdb : (x == ("__debug__" : Str)) = false:=by decide)
  (he : starEach (e :: es) (cxOf (CXY P w) P w K mg base N qual scope f cd A outer s₀ H₀ E).env = (false,eval e (cxOf (CXY P w) P w K mg base N qual scope f cd A outer s₀ H₀ E).env) :: starEach es (cxOf (CXY P w) P w K mg base N qual scope f cd A outer s₀ H₀ E).env:=by rfl) (hpl : (backTo pos (starEach es (cxOf (CXY P w) P w K mg base N qual scope f cd A outer s₀ H₀ E).env)).any (·.1) = false:=by rfl) :
  PE (cxOf (CXY P w) P w K mg base N qual scope f cd A outer s₀ H₀ E) (.Call (.Name x p) (e :: es) [] pos) (tCall sp [] E0 t):=pe_defE (E:=E0) G (hr.mono hk) (passY hn) ha hg hdb he hpl
theorem no0 (l : List Env) (H : Hp) (s : Shared) (ev : Value) (s' : Shared) : ¬ CX0 l H s E0 ev s':=fun z=>z
end
end L2
namespace L2
open PySem PySem.Spec PyProof.Rows
def siR : Hp -> (Str ⊕ Int) -> V -> Prop:=fun _ z v=>match z with
 | .inl x=>v = .str x
 | .inr i=>v = .int i
theorem eqok_si {X : Cx} {A : Around} : EqOk X A siR where
 eq:=fun pins σ H s I a b x y u v ra rb ru rv=>by
  cases a with
  | inl a =>
   have ra : x = .str a:=ra
   subst ra
   obtain ⟨t,rfl⟩:=ru
   cases b with
   | inl b =>
    have rb : y = .str b:=rb
    subst rb
    obtain ⟨t',rfl⟩:=rv
    have h:=SeqAt.EqAt.str_str (A:=A) (s:=s) a t b t'
    have e : (a == b) = decide ((Sum.inl a : Str ⊕ Int) = .inl b):=by
     rw [Bool.eq_iff_iff,beq_iff_eq,decide_eq_true_eq]
     exact ⟨fun z=>by rw [z],fun z=>Sum.inl.inj z⟩
    rw [e] at h
    exact h
   | inr b =>
    have rb : y = .int b:=rb
    subst rb
    obtain ⟨t',rfl⟩:=rv
    exact SeqAt.EqAt.str_int (A:=A) (s:=s) a t b t'
  | inr a =>
   have ra : x = .int a:=ra
   subst ra
   obtain ⟨t,rfl⟩:=ru
   cases b with
   | inl b =>
    have rb : y = .str b:=rb
    subst rb
    obtain ⟨t',rfl⟩:=rv
    exact SeqAt.EqAt.int_str (A:=A) (s:=s) a t b t'
   | inr b =>
    have rb : y = .int b:=rb
    subst rb
    obtain ⟨t',rfl⟩:=rv
    have h:=SeqAt.EqAt.int_int (A:=A) (s:=s) a t b t'
    have e : (a == b) = decide ((Sum.inr a : Str ⊕ Int) = .inr b):=by
     rw [Bool.eq_iff_iff,beq_iff_eq,decide_eq_true_eq]
     exact ⟨fun z=>by rw [z],fun z=>Sum.inr.inj z⟩
    rw [e] at h
    exact h
 fn:=fun pins σ H s I a b x ra rb=>by
  cases a <;> cases b <;> (unfold siR at ra rb; dsimp only at ra rb; rw [ra] at rb; first | (cases rb; rfl) | cases rb)
def blR : Hp -> Bool -> V -> Prop:=fun _ z v=>v = .bl z
theorem eqok_bl {X : Cx} {A : Around} : EqOk X A blR where
 eq:=fun pins σ H s I a b x y u v ra rb ru rv=>by
  cases ra
  cases rb
  cases ru
  cases rv
  have h:=SeqAt.EqAt.bool_bool (A:=A) (s:=s) a b
  have e : (a == b) = decide (a = b):=by cases a <;> cases b <;> rfl
  rw [e] at h
  exact h
 fn:=fun pins σ H s I a b x ra rb=>by
  rw [ra] at rb
  exact V.bl.inj rb
theorem pe_isY {X : Cx} {x : Str} {p pos : Pos} {e : Expr} {es : List Expr} {t : TA} {K : PySem.W.Frag} (hK : X.K = K) (hg : Gl X x) (hm : X.mg x = none) (hv : bootBuiltins x = some (.builtin "isinstance")) (ha : PA X (e :: es) t) (hn : x ≠ "__name__":=by decide) (hdb : (x == ("__debug__" : Str)) = false:=by decide)
  (he : starEach (e :: es) X.env = (false,eval e X.env) :: starEach es X.env:=by rfl) (hpl : (backTo pos (starEach es X.env)).any (·.1) = false:=by rfl) : PE X (.Call (.Name x p) (e :: es) [] pos) (tCB (rIsiY K) t) :=
 hK ▸ pe_callB call_isiY hg hm hv ha hn hdb he hpl
theorem pe_xfldK {X : Cx} {e : Expr} {f : Str} {pos : Pos} {ta : TE} {K : PySem.W.Frag} (hK : X.K = K) (he : PE X e ta) (hb : attributeBase e f X.env (eval e X.env) = eval e X.env) : PE X (.Attribute e f pos) (tXfld K ta f):=hK ▸ pe_xfld he hb
theorem op_eqLstK {X : Cx} {α : Type} [DecidableEq α] {R : Hp -> α -> V -> Prop} {K : PySem.W.Frag} (hK : X.K = K) (h : EqOk X X.A.in1 R) (hu : X.A.units < cLine) : OpR X (compareOp .Eq) (fun x y H Q=>∃ zs ws,lstR K R H zs x /\ lstR K R H ws y /\ Q (.bl (decide (zs = ws))) H):=hK ▸ op_eqLst h hu
end L2
namespace L2
open PySem PySem.Spec PyProof.Rows
inductive SE where
 | lit (x : Str) | v (i : Nat) | cat (l r : SE)
abbrev rAddS : R2:=fun x y H Q=>∃ i j,x = .str i /\ y = .str j /\ i.length + j.length <= sizeLine /\ Q (.str (i ++ j)) H
def tSE : SE -> TE
 | .lit x=>tC (.str x)
 | .v i=>tVar i
 | .cat l r=>tOp rAddS (tSE l) (tSE r)
def tSEs : List SE -> TA
 | []=>tNil
 | s :: r=>tCons (tSE s) (tSEs r)
def SE.ev (g : Nat -> Str) : SE -> Str
 | .lit x=>x
 | .v i=>g i
 | .cat l r=>l.ev g ++ r.ev g
def SE.bd (vs : List Nat) : SE -> Nat
 | .lit x=>x.length
 | .v i=>if i ∈ vs then 5000 else 10000000
 | .cat l r=>l.bd vs + r.bd vs
theorem tSE_rd {σ : St} {g : Nat -> Str} {vs : List Nat} (hv : ∀ i ∈ vs,σ[i]? = some (some (.str (g i))) /\ (g i).length <= 5000) : ∀ (s : SE) {H : Hp} {Q : VK},s.bd vs <= 100000 -> ((s.ev g).length <= s.bd vs -> Q (.str (s.ev g)) H) -> tSE s σ H Q
 | .lit x,H,Q,_,q=>q (Nat.le_refl _)
 | .v i,H,Q,h,q=>by
  unfold SE.bd at h
  by_cases z : i ∈ vs
  ·obtain ⟨a,b⟩:=hv i z
   refine ⟨_,a,q ?_⟩
   unfold SE.bd SE.ev
   rw [if_pos z]
   exact b
  ·rw [if_neg z] at h
   exact absurd h (by decide)
 | .cat l r,H,Q,h,q=>by
  have h : l.bd vs + r.bd vs <= 100000:=h
  refine tSE_rd hv l (by omega) fun h1=>tSE_rd hv r (by omega) fun h2=>?_
  have hz : 2000000 <= sizeLine:=by decide
  refine ⟨_,_,rfl,rfl,by omega,q ?_⟩
  show (l.ev g ++ r.ev g).length <= l.bd vs + r.bd vs
  rw [show (l.ev g ++ r.ev g).length = (l.ev g).length + (r.ev g).length from Str.length_append _ _]
  omega
theorem tSEs_rd {σ : St} {g : Nat -> Str} {vs : List Nat} (hv : ∀ i ∈ vs,σ[i]? = some (some (.str (g i))) /\ (g i).length <= 5000) : ∀ (ss : List SE) {H : Hp} {Q : List V -> Hp -> Prop},(ss.all fun s=>decide (s.bd vs <= 100000)) = true -> Q ((ss.map (SE.ev g)).map V.str) H -> tSEs ss σ H Q
 | [],_,_,_,q=>q
 | s :: r,H,Q,h,q=>by
  rw [List.all_cons,Bool.and_eq_true] at h
  exact tSE_rd hv s (of_decide_eq_true h.1) fun _=>tSEs_rd hv r h.2 q
theorem lst_rd {σ : St} {H : Hp} {Q : VK} (g : Nat -> Str) (vs : List Nat) (ss : List SE) (zs : List Str) (hv : ∀ i ∈ vs,σ[i]? = some (some (.str (g i))) /\ (g i).length <= 5000) (h : (ss.all fun s=>decide (s.bd vs <= 100000)) = true) (e : ss.map (SE.ev g) = zs) (hl : zs.length <= 1000)
  (q : ∀ p H',Same H H' -> H' p = some (.lst (zs.map V.str)) -> Q (.ref p) H') : tLst (tSEs ss) σ H Q:=by
 refine tSEs_rd hv ss h ⟨?_,fun p hp=>?_⟩
 ·rw [e,List.length_map]
  exact Nat.le_trans hl (by decide)
 ·rw [e]
  exact q p _ (same_upd hp _) upd_same
theorem cat_rd {H : Hp} {Q : VK} {l b : Addr} {xs ys : List Str} (h1 : H l = some (.lst (xs.map V.str))) (h2 : H b = some (.lst (ys.map V.str))) (hz : xs.length + ys.length <= 1000) (q : ∀ p H',Same H H' -> H' p = some (.lst ((xs ++ ys).map V.str)) -> Q (.ref p) H') : rCat (.ref l) (.ref b) H Q:=by
 refine ⟨l,b,_,_,rfl,rfl,h1,h2,?_,fun p hp=>q p _ (same_upd hp _) ?_⟩
 ·rw [List.length_map,List.length_map]
  exact Nat.le_trans hz (by decide)
 ·rw [upd_same,List.map_append]
end L2
namespace L2
open PySem PySem.Spec PyProof.Rows
section
variable {σ : St} {H : Hp} {D : Ends} {i j : Nat} {u : TS} (g : Nat -> Str) (vs : List Nat) (ss : List SE) (zs : List Str) (hv : ∀ i ∈ vs,σ[i]? = some (some (.str (g i))) /\ (g i).length <= 5000) (h : (ss.all fun s=>decide (s.bd vs <= 100000)) = true) (e : ss.map (SE.ev g) = zs) (hl : zs.length <= 1000)
include hv h e hl
theorem asg1_rd (q : ∀ p H',Same H H' -> H' p = some (.lst (zs.map V.str)) -> u D (σ.set i (some (.ref p))) H') : tSeq (tAsg (tLst (tSEs ss)) (gName i)) u D σ H:=by
 show tLst (tSEs ss) σ H fun x H1=>u D (σ.set i (some x)) H1
 exact lst_rd g vs ss zs hv h e hl q
theorem asg2_rd {l : Addr} {xs : List Str} (hj : σ[j]? = some (some (.ref l))) (h1 : H l = some (.lst (xs.map V.str))) (hz : xs.length + zs.length <= 1000) (q : ∀ p H',Same H H' -> H' p = some (.lst ((xs ++ zs).map V.str)) -> u D (σ.set i (some (.ref p))) H') : tSeq (tAsg (tOp rCat (tVar j) (tLst (tSEs ss))) (gName i)) u D σ H:=by
 refine ⟨_,hj,?_⟩
 show tLst (tSEs ss) σ H fun y H2=>rCat (.ref l) y H2 fun x H1=>u D (σ.set i (some x)) H1
 exact lst_rd g vs ss zs hv h e hl fun p H1 g1 e1=>cat_rd (g1 _ _ h1) e1 hz fun r H2 g2 e2=>q r H2 (g1.trans g2) e2
theorem ret2_rd {l : Addr} {xs : List Str} (hj : σ[j]? = some (some (.ref l))) (h1 : H l = some (.lst (xs.map V.str))) (hz : xs.length + zs.length <= 1000) (q : ∀ p H',Same H H' -> H' p = some (.lst ((xs ++ zs).map V.str)) -> D.rt (.ref p) H') : tRet (tOp rCat (tVar j) (tLst (tSEs ss))) D σ H:=by
 refine ⟨_,hj,?_⟩
 show tLst (tSEs ss) σ H fun y H2=>rCat (.ref l) y H2 D.rt
 exact lst_rd g vs ss zs hv h e hl fun p H1 g1 e1=>cat_rd (g1 _ _ h1) e1 hz fun r H2 g2 e2=>q r H2 (g1.trans g2) e2
end
end L2
namespace L2
open PySem PySem.Spec PyProof.Rows
section
variable {X : Cx}
theorem var_ld {pins : List (Addr × Obj)} {σ : St} {H : Hp} {s : Shared} {i : Nat} {x : Str} {v : V} (I : Inv X pins σ H s) (hN : X.N[i]? = some x) (hv : Vis X.env.scope x) (e : σ[i]? = some (some v)) (hd : (x == ("__debug__" : Str)) = false) (hcd : (x == ("__classdict__" : Str)) = false) :
  ∃ u,RelV v u /\ ∀ {M : Model} {A : Around} {E : Value -> Shared -> Prop} {Q : Value -> Shared -> Prop} {pos : Pos},Q u s -> wpAny M A (eval (.Name x pos) X.env) Q E s:=by
 obtain ⟨m,hn,hl⟩:=I.loc
 obtain ⟨u,r,l⟩:=hl i x v hN e hv
 refine ⟨u,r,fun {M A E Q pos} fin=>?_⟩
 rcases l with ⟨hk,hm⟩ | ⟨hk,c,hc,hcell⟩
 ·exact wpAny_Name (wpAny_loadName_local I.ok.kind hk hn hm fin) hd
 ·rcases hk with hk | hk
  ·exact wpAny_Name (wpAny_loadName_cell I.ok.kind hk hc hcell fin) hd
  ·exact wpAny_Name (wpAny_loadName_free I.ok.kind hk hc hcell fin hcd) hd
def PTp (X : Cx) (e : Expr) (t : TT) : Prop :=
 ∀ (wh : Sem Value) (pins : List (Addr × Obj)) (s : Shared) (σ : St) (H : Hp) (Q : Bool -> Hp -> Prop),Inv X pins σ H s -> t σ H Q -> wpAny (model X.prog X.w) X.A (isTrue e X.env wh) (fun b s'=>TP X pins σ Q b s' /\ (b = true -> 0 < s'.toks)) X.xe s
abbrev rInS : R2:=fun x y H Q=>∃ i j,x = .str i /\ y = .str j /\ Q (.bl (!(Builtin.Str.occurrences j i 0 j.length 1).isEmpty)) H
theorem ptp_in {y x : Str} {j : Nat} (i : Nat) {p q pos : Pos} (hN : X.N[i]? = some x:=by rfl) (hv : Vis X.env.scope x:=by exact Or.inl rfl) (hd : (x == ("__debug__" : Str)) = false:=by decide) (hcd : (x == ("__classdict__" : Str)) = false:=by decide) (hm : behindInMarks .In (.Name x q) = false:=by with_unfolding_all rfl) : PTp X (.Compare (.Constant (.str y) j p) [.In] [.Name x q] pos) (tTest (tOp rInS (tC (.str y)) (tVar i))):=by
 intro wh pins s σ H Q I h
 obtain ⟨v,e,i1,j1,e1,e2,k,e3,q1⟩:=h
 cases e1
 subst e2
 cases e3
 have J:=I.tok (s.toks + 1)
 obtain ⟨u,r,ld⟩:=var_ld J hN hv e hd hcd
 obtain ⟨t,rfl⟩:=r
 refine wpAny_isTrue_Compare1 (Calls.Constant_str (ld (in_str (wpAny_truthy_bool ⟨⟨H,J,q1⟩,fun _=>?_⟩)))) hm
 exact Nat.succ_pos _
variable {a b : Expr} {rest : List Expr} {tA tB' : TT} {pos : Pos}
theorem pwp_and1 (ha : PTp X a tA) : PTp X (.BoolOp .And [a] pos) tA:=by
 intro wh pins s σ H Q I h
 refine isTrue_and (thn (ha _ pins s σ H Q I h) fun c s1 e=>?_)
 cases c with
 | true=>exact isTrue_and_nil e
 | false=>exact e
theorem pwp_and (ha : PT X a tA) (hb : PTp X (.BoolOp .And (b :: rest) pos) tB') : PTp X (.BoolOp .And (a :: b :: rest) pos) (tAnd tA tB'):=by
 intro wh pins s σ H Q I h
 refine isTrue_and (thn (ha pins s σ H _ I h) fun c s1 ⟨H1,I1,q1⟩=>?_)
 cases c with
 | true=>exact hb wh pins s1 σ H1 Q I1 q1
 | false=>exact ⟨⟨H1,I1,q1⟩,fun z=>by cases z⟩
def PSp (X : Cx) (st : List Stmt) (t : TS) : Prop :=
 ∀ (pins : List (Addr × Obj)) (s : Shared) (σ : St) (H : Hp) (D : Ends),Inv X pins σ H s -> 0 < s.toks -> t D σ H -> wpAny (model X.prog X.w) X.A (execs st X.env) (SP X pins D) X.xe s
theorem ps_ifp {c : Expr} {as bs : List Stmt} {tc : TT} {t u : TS} (hc : PTp X c tc) (ha : PSp X as t) (hb : PSs X bs u) : PS X (.If c as bs pos) (tIfS tc t u):=by
 intro pins s σ H D I h
 refine wpAny_If (thn (hc _ pins s σ H _ I h) fun d s1 ⟨⟨H1,I1,q1⟩,z⟩=>?_)
 cases d with
 | true=>exact ha pins s1 σ H1 D I1 (z rfl) q1
 | false=>exact hb pins s1 σ H1 D I1 q1
def tRepl (i k : Nat) (y d e : Str) : TS:=fun D σ H=>∃ (xv av : Str),σ[i]? = some (some (.str xv)) /\ σ[k]? = some (some (.str av)) /\ 1 <= av.length /\ av.length <= 20 /\ xv.length <= 10000 /\ D.rt (.str (Txt.replace xv y (d ++ av ++ e))) H
theorem psp_repl (i k : Nat) {x z y d e : Str} {j j2 j3 : Nat} {p1 p2 p3 p4 p5 q1 q2 apos cpos rpos : Pos} (hN : X.N[i]? = some x:=by rfl) (hv : Vis X.env.scope x:=by exact Or.inl rfl) (hd1 : (x == ("__debug__" : Str)) = false:=by decide) (hcd1 : (x == ("__classdict__" : Str)) = false:=by decide)
  (hN2 : X.N[k]? = some z:=by rfl) (hv2 : Vis X.env.scope z:=by exact Or.inl rfl) (hd2 : (z == ("__debug__" : Str)) = false:=by decide) (hcd2 : (z == ("__classdict__" : Str)) = false:=by decide)
  (hdl : (decide (1 <= d.length) && decide (1 <= e.length) && decide (d.length <= 10) && decide (e.length <= 10) && decide (y.length = 1)) = true:=by decide +kernel)
  (hbase : attributeBase (.Name x p1) "replace" X.env (eval (.Name x p1) X.env) = eval (.Name x p1) X.env:=by rfl)
  (hfew : ((backTo cpos (starEach [.Constant (.str y) j p2,.BinOp (.BinOp (.Constant (.str d) j2 p3) .Add (.Name z p4) q1) .Add (.Constant (.str e) j3 p5) q2] X.env)).all (fun x=>!x.1) && (backToKw cpos (keywordEach [] X.env)).all (fun x=>x.1.isSome)
   && decide ([Expr.Constant (.str y) j p2,.BinOp (.BinOp (.Constant (.str d) j2 p3) .Add (.Name z p4) q1) .Add (.Constant (.str e) j3 p5) q2].length + ([] : List Keyword).length + (if ([] : List Keyword).isEmpty then 0 else 1) < 30)) = true:=by rfl)
  (hline : (apos.endLine == cpos.line) = true:=by rfl) : PSp X [.Return (some (.Call (.Attribute (.Name x p1) "replace" apos) [.Constant (.str y) j p2,.BinOp (.BinOp (.Constant (.str d) j2 p3) .Add (.Name z p4) q1) .Add (.Constant (.str e) j3 p5) q2] [] cpos)) rpos] (tRepl i k y d e):=by
 intro pins s σ H D I h0 h
 obtain ⟨xv,av,ex,ez,l1,l2,l3,q⟩:=h
 simp only [Bool.and_eq_true,decide_eq_true_eq] at hdl
 obtain ⟨⟨⟨⟨k1,k2⟩,k3⟩,k4⟩,k5⟩:=hdl
 obtain ⟨u,r,ld⟩:=var_ld I hN hv ex hd1 hcd1
 obtain ⟨t,rfl⟩:=r
 refine wpAny_execs_cons (wpAny_Return_some (wpAny_Call_method_late hbase hfew hline rfl (ld ?_)))
 obtain ⟨h1,h2⟩:=tyV_is (x:=.str xv) (T:="str") I ⟨t,rfl⟩ rfl
 refine ⟨"str","str.replace",PySem.F.plainAttrs_str,PySem.F.slot_str_replace,PySem.F.type_str_replace,h1,h2,?_⟩
 refine Calls.callWith_builtin rfl (Calls.evalArgs_plain ?_)
 refine Calls.spliced_cons ?_
 show wpAny _ _ (eval (.Constant (.str y) j p2) X.env) _ _ _
 refine Calls.Constant_str (k:=j) (pos:=p2) ?_
 show wpAny _ _ (spliced [(false,eval (.BinOp (.BinOp (.Constant (.str d) j2 p3) .Add (.Name z p4) q1) .Add (.Constant (.str e) j3 p5) q2) X.env)]) _ _ _
 refine Calls.spliced_cons (wpAny_BinOp (wpAny_BinOp (Calls.Constant_str (k:=j2) (pos:=p3) ?_)))
 obtain ⟨u2,r2,ld2⟩:=var_ld (I.tok (s.toks + 1 + 1)) hN2 hv2 ez hd2 hcd2
 obtain ⟨t2,rfl⟩:=r2
 refine ld2 ?_
 have hz : 2000000 <= sizeLine:=by decide
 have la : ∀ a b : Str,(a ++ b).length = a.length + b.length:=fun a b=>Str.length_append a b
 refine PySem.P.add_str ?_
 rw [if_neg (by simp; omega),if_neg (by simp; omega)]
 refine ⟨by rw [la]; omega,?_⟩
 refine Calls.Constant_str (k:=j3) (pos:=p5) ?_
 refine PySem.P.add_str ?_
 rw [if_neg (by simp [la]; omega),if_neg (by simp; omega)]
 refine ⟨by rw [la,la]; omega,?_⟩
 refine Calls.spliced_nil ?_
 show wpAny _ _ (call (.builtin "str.replace") [.str xv t,.str y s.toks,.str (d ++ av ++ e) (s.toks + 1 + 1 + 1 + 1)]) _ _ _
 have hyz : (y == d ++ av ++ e) = false:=by
  rw [Bool.eq_false_iff]
  intro z
  have z:=congrArg Str.length (eq_of_beq z)
  rw [la,la] at z
  omega
 refine SC.replace (by show s.toks ≠ 0; omega) (by show s.toks + 1 + 1 + 1 + 1 ≠ 0; omega) (by show s.toks ≠ s.toks + 1 + 1 + 1 + 1; omega) hyz ?_ fun t' kk=>?_
 ·have : (xv.length + 1) * (d ++ av ++ e).length <= 10001 * 40:=Nat.mul_le_mul (by omega) (by rw [la,la]; omega)
  omega
 ·exact ⟨.str _,σ,H,I.tok _,⟨_,rfl⟩,q⟩
end
end L2
namespace D
open PySem L2
def top (i : Nat) : Stmt:=PySem.Challenge.pw_gloss_k17_rows_refused.main.body.getD i (.Pass ⟨0,0,0,0⟩)
abbrev s_is_word : Stmt:=top 10
abbrev s_words_of : Stmt:=top 11
abbrev s_text_of : Stmt:=top 12
abbrev s_bent : Stmt:=top 14
abbrev s_forms : Stmt:=top 15
abbrev s_telling_row : Stmt:=top 22
abbrev s_rows_within : Stmt:=top 23
abbrev s_written : Stmt:=top 24
abbrev s_read_words : Stmt:=top 25
abbrev s_read_bend : Stmt:=top 26
abbrev s_read_phrase_and_bends : Stmt:=top 27
abbrev s_has_forms : Stmt:=top 28
abbrev s_read_say : Stmt:=top 29
abbrev s_read_telling : Stmt:=top 30
abbrev s_read_row : Stmt:=top 31
abbrev s_cut_in_rows : Stmt:=top 32
abbrev s_end_part : Stmt:=top 33
abbrev s_read : Stmt:=top 34
abbrev s_l_cell : Stmt:=top 36
abbrev s_l_mixed : Stmt:=top 37
abbrev s_l_menu : Stmt:=top 38
abbrev s_l_plain_words : Stmt:=top 39
abbrev s_l_row : Stmt:=top 40
abbrev s_l_bends : Stmt:=top 41
abbrev s_l_thing : Stmt:=top 42
abbrev s_l_number : Stmt:=top 43
abbrev s_l_ended : Stmt:=top 44
abbrev s_l_document : Stmt:=top 45
abbrev s_l_line : Stmt:=top 46
abbrev s_l_lines : Stmt:=top 47
abbrev s_l_many : Stmt:=top 48
abbrev s_l_odd_says : Stmt:=top 49
abbrev s_l_odd_tells : Stmt:=top 50
abbrev s_l_spoiled : Stmt:=top 51
abbrev s_l_odd : Stmt:=top 52
abbrev s_l_changed : Stmt:=top 53
abbrev s_l_due : Stmt:=top 54
abbrev s_l_told : Stmt:=top 55
abbrev s_l_right : Stmt:=top 56
abbrev s_law : Stmt:=top 57
end D
namespace D
open PySem L2
def cellN (ns : List Int) (k : Int) : Int:=if 0 < (ns.length : Int) then (ns.getD (k * 7 % (ns.length : Int)).toNat 0 * 48271 + k * 7919) % 2147483647 else k * 7919 + 5
def cellZ (ns : List Int) (k : Int) : Int:=if k < (ns.length : Int) then ns.getD k.toNat 0 else cellN ns k * cellN ns k % 2147483629
def good (c : Nat) : Bool:=(decide (97 <= c) && decide (c <= 122)) || (decide (65 <= c) && decide (c <= 90)) || (decide (48 <= c) && decide (c <= 57))
abbrev W62 : Str:=("abcdefghijklmnopqrstuvwxyzABCDEFGHIJKLMNOPQRSTUVWXYZ0123456789" : Str)
theorem at_nat {ns : List Int} {k : Int} (h0 : 0 <= k) (h : k < (ns.length : Int)) : atI (ns.map V.int) k = some (.int (ns.getD k.toNat 0)):=by
 have hk : k.toNat < ns.length:=by omega
 have ek : k = ((k.toNat : Nat) : Int):=by omega
 have q : atI (ns.map V.int) ((k.toNat : Nat) : Int) = some (.int (ns.getD k.toNat 0)):=atI_nat (by rw [List.getElem?_map,List.getElem?_eq_getElem hk,List.getD_eq_getElem?_getD,List.getElem?_eq_getElem hk] <;> rfl)
 rw [<- ek] at q
 exact q
def spCell (K : PySem.W.Frag) : Sp:=fun vs H Q _=>∃ (a : Addr) (ns : List Int) (k : Int),vs = [.ref a,.int k] /\ SqL K H a (ns.map V.int) /\ ns.length <= 63 /\ 0 <= k /\ k <= 100000 /\ Q (.int (cellZ ns k)) H
section
variable {P : Program} {w : World} {K : PySem.W.Frag} {mg : Str -> Option Value} {base : Heap} {f : Addr} {fd : FuncData}
theorem scCell : FnScope ["_law_script","_law_k","_law_number_here"] ["_law_script","_law_k"] (defScope s_l_cell):=⟨rfl,rfl,rfl,by decide +kernel,rfl,by decide +kernel,by decide +kernel⟩
theorem ok_cell (F : Fun K "_law_cell" "_law_cell" s_l_cell f fd) (ml : mg "len" = none) : FnOk P w K mg base CX0 1 f fd ["_law_script","_law_k"] (spCell K):=by
 refine F.ok scCell (fun vs H Q E h=>?_) (fun cdv A outer s H vs Q E hr h=>?_)
 ·obtain ⟨a,ns,k,rfl,_⟩:=h
  rfl
 obtain ⟨a,ns,k,rfl,hS,h63,h0,h1,q⟩:=h
 refine ⟨_,pss_cons (ps_if (pt_cmpR op_lt (pv 1) (pe_callB call_len_seq rfl ml PySem.boot_len (pa_cons (pv 0) pa_nil)) (nomark _)) (pss_one (ps_ret (pe_ix ix_list (pv 0) (pv 1) (fun _ _=>rfl)))) pss_nil)
  (pss_cons (ps_set (i:=2) scCell.nd rfl (Or.inl rfl) (pe_op op_add (pe_op op_mul (pv 1) pe_int) pe_int))
  (pss_cons (ps_if (pt_cmpR op_gt (pe_callB call_len_seq rfl ml PySem.boot_len (pa_cons (pv 0) pa_nil)) pe_int (nomark _))
   (pss_one (ps_set (i:=2) scCell.nd rfl (Or.inl rfl) (pe_op op_mod (pe_op op_add (pe_op op_mul (pe_ix ix_list (pv 0) (pe_op op_mod (pe_op op_mul (pv 1) pe_int) (pe_callB call_len_seq rfl ml PySem.boot_len (pa_cons (pv 0) pa_nil))) (fun _ _=>rfl)) pe_int) (pe_op op_mul (pv 1) pe_int)) pe_int))) pss_nil)
  (pss_one (ps_ret (pe_op op_mod (pe_op op_mul (pv 2) (pv 2)) pe_int))))),?_⟩
 have hl : (ns.map V.int).length = ns.length:=List.length_map _
 refine ⟨_,rfl,_,rfl,a,_,rfl,.inl hS,_,_,rfl,rfl,_,rfl,?_⟩
 refine ite2 (fun c=>?_) (fun c=>?_)
 ·have c' : k < (((ns.map V.int).length : Nat) : Int):=of_decide_eq_true c
  rw [hl] at c'
  refine ⟨_,rfl,_,rfl,a,_,_,_,rfl,rfl,hS,at_nat h0 c',?_⟩
  have e : cellZ ns k = ns.getD k.toNat 0:=if_pos c'
  rw [e] at q
  exact q
 ·have c' : ¬ k < (((ns.map V.int).length : Nat) : Int):=of_decide_eq_false (Bool.eq_false_iff.mpr c)
  rw [hl] at c'
  have e : cellZ ns k = cellN ns k * cellN ns k % 2147483629:=if_neg c'
  rw [e] at q
  refine ⟨_,rfl,_,_,rfl,rfl,.inr ⟨by decide,by decide⟩,_,_,rfl,rfl,?_⟩
  refine ⟨_,rfl,a,_,rfl,.inl hS,_,_,rfl,rfl,_,rfl,?_⟩
  refine ite2 (fun d=>?_) (fun d=>?_)
  ·have d' : (0 : Int) < (((ns.map V.int).length : Nat) : Int):=of_decide_eq_true d
   rw [hl] at d'
   have hm0 : 0 <= k * 7 % (ns.length : Int):=Int.emod_nonneg _ (by omega)
   have hm1 : k * 7 % (ns.length : Int) < (ns.length : Int):=Int.emod_lt_of_pos _ d'
   have en : cellN ns k = (ns.getD (k * 7 % (ns.length : Int)).toNat 0 * 48271 + k * 7919) % 2147483647:=if_pos d'
   have b0 : 0 <= cellN ns k:=by rw [en]; exact Int.emod_nonneg _ (by decide)
   have b1 : cellN ns k < 2147483647:=by rw [en]; exact Int.emod_lt_of_pos _ (by decide)
   refine ⟨_,rfl,_,rfl,_,_,rfl,rfl,.inr ⟨by decide,by decide⟩,_,rfl,a,_,rfl,.inl hS,_,_,rfl,rfl,by rw [hl]; exact d',a,_,_,_,rfl,rfl,hS,at_nat (by rw [hl]; exact hm0) (by rw [hl]; exact hm1),_,_,rfl,rfl,.inr ⟨by decide,by decide⟩,
    _,rfl,_,_,rfl,rfl,.inr ⟨by decide,by decide⟩,_,_,rfl,rfl,_,_,rfl,rfl,(by show (0 : Int) < _; decide),?_⟩
   rw [hl]
   dsimp only
   rw [<- en]
   exact ⟨_,rfl,_,rfl,_,_,rfl,rfl,.inl ⟨by omega,by omega⟩,_,_,rfl,rfl,(by show (0 : Int) < _; decide),q⟩
  ·have d' : ¬ (0 : Int) < (((ns.map V.int).length : Nat) : Int):=of_decide_eq_false (Bool.eq_false_iff.mpr d)
   rw [hl] at d'
   have en : cellN ns k = k * 7919 + 5:=if_neg d'
   rw [en] at q
   exact ⟨_,rfl,_,rfl,_,_,rfl,rfl,.inl ⟨by omega,by omega⟩,_,_,rfl,rfl,(by show (0 : Int) < _; decide),q⟩
end
theorem same_new {H : Hp} {p : Addr} (h : H p = none) (o : HO) : Same H (upd H p o):=fun b u q=>by rw [upd_ne (ne_of_none q h)]; exact q
abbrev cs (x : Str) : List Nat:=x.cps.toList
theorem cs_len (x : Str) : (cs x).length = x.length:=by simp [Str.length]
theorem cs_app (x y : Str) : cs (x ++ y) = cs x ++ cs y:=by
 show (x.cps ++ y.cps).toList = _
 simp
theorem cs_mk (l : List Nat) : cs ⟨l.toArray⟩ = l:=by simp
theorem len_mk (l : List Nat) : (⟨l.toArray⟩ : Str).length = l.length:=by simp [Str.length]
theorem len_app (x y : Str) : (x ++ y).length = x.length + y.length:=by rw [<- cs_len,cs_app,List.length_append,cs_len,cs_len]
theorem str_ext {x y : Str} (h : cs x = cs y) : x = y:=by
 cases x with
 | mk a =>
  cases y with
  | mk b=>exact congrArg Str.mk (Array.toList_inj.mp h)
def allGood (x : Str) : Prop:=(cs x).all good = true
theorem allGood.app {x y : Str} (h1 : allGood x) (h2 : allGood y) : allGood (x ++ y):=by
 unfold allGood
 rw [cs_app,List.all_append,h1,h2]
 rfl
theorem allGood.mk {l : List Nat} (h : l.all good = true) : allGood ⟨l.toArray⟩:=by
 unfold allGood
 rw [cs_mk]
 exact h
theorem all_take {l : List Nat} {n : Nat} (h : l.all good = true) : (l.take n).all good = true:=by
 rw [List.all_eq_true] at h ⊢
 exact fun c hc=>h c (List.mem_of_mem_take hc)
theorem all_drop {l : List Nat} {n : Nat} (h : l.all good = true) : (l.drop n).all good = true:=by
 rw [List.all_eq_true] at h ⊢
 exact fun c hc=>h c (List.mem_of_mem_drop hc)
theorem good_small {c : Nat} (h : good c = true) : c < 128:=by
 unfold good at h
 simp only [Bool.or_eq_true,Bool.and_eq_true,decide_eq_true_eq] at h
 omega
theorem allGood.small {x : Str} (h : allGood x) : ∀ c ∈ x.cps.toList,c < 16 ^ 8:=fun c hc=>Nat.lt_trans (good_small (List.all_eq_true.mp h c hc)) (by decide)
theorem cut_from (x : Str) {i : Int} (h : 0 <= i) : cutC x (some i) none = (cs x).drop i.toNat:=by
 have e : i = ((i.toNat : Nat) : Int):=by omega
 unfold cutC
 rw [e,HT.sIx_nat,HT.sIx_none]
 show ((cs x).drop (min i.toNat x.length)).take (x.length - min i.toNat x.length) = _
 rw [List.take_of_length_le (by rw [List.length_drop,cs_len]; exact Nat.le_refl _)]
 have ei : (((i.toNat : Nat) : Int)).toNat = i.toNat:=by omega
 rw [ei]
 by_cases hi : i.toNat <= x.length
 ·rw [Nat.min_eq_left hi]
 ·rw [Nat.min_eq_right (by omega),List.drop_of_length_le (by rw [cs_len]; exact Nat.le_refl _),List.drop_of_length_le (by rw [cs_len]; omega)]
theorem cut_to (x : Str) {i : Int} (h : 0 <= i) : cutC x none (some i) = (cs x).take i.toNat:=by
 have e : i = ((i.toNat : Nat) : Int):=by omega
 unfold cutC
 rw [e,HT.sIx_nat,HT.sIx_none]
 show ((cs x).drop 0).take (min i.toNat x.length - 0) = _
 have ei : (((i.toNat : Nat) : Int)).toNat = i.toNat:=by omega
 rw [ei,List.drop_zero,Nat.sub_zero]
 by_cases hi : i.toNat <= x.length
 ·rw [Nat.min_eq_left hi]
 ·rw [Nat.min_eq_right (by omega),List.take_of_length_le (by rw [cs_len]; exact Nat.le_refl _),List.take_of_length_le (by rw [cs_len]; omega)]
theorem big : (100000 : Nat) <= sizeLine:=by decide
theorem w62_good : (cs W62).all good = true:=by decide +kernel
theorem w62_at {i : Int} (h0 : 0 <= i) (h1 : i < 62) : ∃ d,atI W62.cps.toList i = some d /\ good d = true:=by
 have hn : W62.cps.toList.length = 62:=by decide +kernel
 have hk : i.toNat < W62.cps.toList.length:=by omega
 have ek : i = ((i.toNat : Nat) : Int):=by omega
 rw [ek]
 exact ⟨_,atI_nat (List.getElem?_eq_getElem hk),List.all_eq_true.mp w62_good _ (List.getElem_mem hk)⟩
structure Nm (mg : Str -> Option Value) : Prop where
 len : mg "len" = none
 range : mg "range" = none
 int : mg "int" = none
 tuple : mg "tuple" = none
 list : mg "list" = none
 mx : mg "max" = none
 mn : mg "min" = none
 isi : mg "isinstance" = none
def mixedZ (n : Int) : Int:=(n * 48271 + 12345) % 2147483647
def spMixed : Sp:=fun vs H Q _=>∃ n : Int,vs = [.int n] /\ Q (.int (mixedZ n)) H
def Wd (x : Str) : Prop:=1 <= x.length /\ x.length <= 20 /\ allGood x
def spMenu (K : PySem.W.Frag) : Sp:=fun vs H Q _=>∃ (a : Addr) (ns : List Int),vs = [.ref a] /\ SqL K H a (ns.map V.int) /\ ns.length <= 63 /\ ∀ (ws : List Str) r H',Same H H' -> H' r = some (.lst (ws.map V.str)) -> H r = none -> ws.length = 10 -> (∀ x ∈ ws,Wd x) -> Q (.ref r) H'
def spRow (K : PySem.W.Frag) : Sp:=fun vs H Q _=>∃ (c : Int) (m : Addr) (ws : List Str) (k : Int),vs = [.int c,.ref m,.int k] /\ SqL K H m (ws.map V.str) /\ ws.length = 10 /\ 0 <= k /\ k <= 1000 /\ ∀ (zs : List Str) r H',Same H H' -> H' r = some (.tup (zs.map V.str)) -> zs.length = k.toNat -> (∀ z ∈ zs,z ∈ ws) -> Q (.ref r) H'
theorem keep_upd {H H' : Hp} {p : Addr} (hp : H p = none) (g : Same H H') (o : HO) : Same H (upd H' p o):=fun b u e=>by rw [upd_ne (ne_of_none e hp)]; exact g b u e
theorem at_of {α : Type} {xs : List α} {k : Int} (h0 : 0 <= k) (h : k < (xs.length : Int)) : ∃ v,atI xs k = some v /\ xs[k.toNat]? = some v:=by
 have hk : k.toNat < xs.length:=by omega
 have ek : k = ((k.toNat : Nat) : Int):=by omega
 have q:=atI_nat (List.getElem?_eq_getElem hk)
 rw [<- ek] at q
 exact ⟨_,q,List.getElem?_eq_getElem hk⟩
theorem at_str {ws : List Str} {k : Int} (h0 : 0 <= k) (h : k < (ws.length : Int)) : ∃ z,z ∈ ws /\ atI (ws.map V.str) k = some (.str z):=by
 obtain ⟨v,h1,h2⟩:=at_of (xs:=ws.map V.str) h0 (by rw [List.length_map]; exact h)
 rw [List.getElem?_map] at h2
 cases hz : ws[k.toNat]? with
 | none=>rw [hz] at h2; cases h2
 | some z =>
  rw [hz] at h2
  cases h2
  exact ⟨z,List.mem_of_getElem? hz,h1⟩
theorem at_int {is : List Int} {k : Int} (h0 : 0 <= k) (h : k < (is.length : Int)) : ∃ z,z ∈ is /\ atI (is.map V.int) k = some (.int z):=by
 obtain ⟨v,h1,h2⟩:=at_of (xs:=is.map V.int) h0 (by rw [List.length_map]; exact h)
 rw [List.getElem?_map] at h2
 cases hz : is[k.toNat]? with
 | none=>rw [hz] at h2; cases h2
 | some z =>
  rw [hz] at h2
  cases h2
  exact ⟨z,List.mem_of_getElem? hz,h1⟩
section
variable {P : Program} {w : World} {K : PySem.W.Frag} {mg : Str -> Option Value} {base : Heap} {f : Addr} {fd : FuncData}
theorem scMixed : FnScope ["_law_number_here"] ["_law_number_here"] (defScope s_l_mixed):=⟨rfl,rfl,rfl,by decide +kernel,rfl,by decide +kernel,by decide +kernel⟩
theorem ok_mixed (F : Fun K "_law_mixed" "_law_mixed" s_l_mixed f fd) : FnOk P w K mg base CX0 1 f fd ["_law_number_here"] spMixed:=by
 refine F.ok scMixed (fun vs H Q E h=>?_) (fun cdv A outer s H vs Q E hr h=>?_)
 ·obtain ⟨c,rfl,_⟩:=h
  rfl
 obtain ⟨c,rfl,q⟩:=h
 refine ⟨_,pss_one (ps_ret (pe_op op_mod (pe_op op_add (pe_op op_mul (pv 0) pe_int) pe_int) pe_int)),?_⟩
 exact ⟨_,rfl,_,_,rfl,rfl,.inr ⟨by decide,by decide⟩,_,_,rfl,rfl,_,_,rfl,rfl,(by show (0 : Int) < _; decide),q⟩
theorem scMenu : FnScope ["_law_script","_law_some","_law_cell_here","_law_size","_law_at","_law_number_here","_law_signs","_law_k","_law_menu_here","_law_word","_law_j","_law_sign"] ["_law_script"] (defScope s_l_menu):=⟨rfl,rfl,rfl,by decide +kernel,rfl,by decide +kernel,by decide +kernel⟩
set_option maxHeartbeats 8000000 in
theorem ok_menu (F : Fun K "_law_menu" "_law_menu" s_l_menu f fd) (T : Nm mg) (GC : Def P w K mg base CX0 1 "_law_cell" ["_law_script","_law_k"] (spCell K)) (GM : Def P w K mg base CX0 1 "_law_mixed" ["_law_number_here"] spMixed) : FnOk P w K mg base CX0 2 f fd ["_law_script"] (spMenu K):=by
 refine F.ok scMenu (fun vs H Q E h=>?_) (fun cdv A outer s H vs Q E hr h=>?_)
 ·obtain ⟨a,ns,rfl,_⟩:=h
  rfl
 obtain ⟨a,ns,rfl,hS,h63,q⟩:=h
 refine ⟨_,pss_cons (ps_set (i:=1) scMenu.nd rfl (Or.inl rfl) pe_str)
  (pss_cons (ps_set (i:=2) scMenu.nd rfl (Or.inl rfl) (pe_def GC hr (pa_cons (pv 0) (pa_cons pe_int pa_nil))))
  (pss_cons (ps_set (i:=3) scMenu.nd rfl (Or.inl rfl) (pe_op op_add pe_int (pe_op op_mod (pv 2) pe_int)))
  (pss_cons (ps_set (i:=4) scMenu.nd rfl (Or.inl rfl) (pe_op op_mod (pe_op op_fdiv (pv 2) pe_int) (pv 3)))
  (pss_cons (ps_set (i:=5) scMenu.nd rfl (Or.inl rfl) (pe_op op_mod (pv 2) pe_int))
  (pss_cons (ps_set (i:=6) scMenu.nd rfl (Or.inl rfl) (pe_lst pa_nil))
  (pss_cons (ps_for PassesOwn.never rfl (pi_range1 rfl T.range (pa_cons (pv 3) pa_nil)) (pg_name (i:=7) scMenu.nd rfl (Or.inl rfl))
   (pss_cons (ps_set (i:=5) scMenu.nd rfl (Or.inl rfl) (pe_def GM hr (pa_cons (pv 5) pa_nil)))
   (pss_one (ps_expr (pe_bm PySem.F.plainAttrs_list PySem.F.slot_list_append PySem.F.type_list_append mt_append (pv 6) (pa_cons (pe_op op_mod (pv 5) pe_int) pa_nil))))))
  (pss_cons (ps_set (i:=8) scMenu.nd rfl (Or.inl rfl) (pe_lst pa_nil))
  (pss_cons (ps_for PassesOwn.never rfl (pi_range1 rfl T.range (pa_cons pe_int pa_nil)) (pg_name (i:=7) scMenu.nd rfl (Or.inl rfl))
   (pss_cons (ps_set (i:=9) scMenu.nd rfl (Or.inl rfl) pe_str)
   (pss_cons (ps_for PassesOwn.never rfl (pi_range1 rfl T.range (pa_cons (pv 3) pa_nil)) (pg_name (i:=10) scMenu.nd rfl (Or.inl rfl))
    (pss_cons (ps_set (i:=11) scMenu.nd rfl (Or.inl rfl) (pe_op op_mod (pe_op op_add (pe_ix ix_list (pv 6) (pv 10) (fun _ _=>rfl)) (pe_op op_mul (pe_op op_mul pe_int (pv 7)) (pe_callTy call_int1 rfl T.int PyProof.Rows.boot_int (pa_cons (pe_cmpR op_eq (pv 10) (pv 4) (nomark _)) pa_nil)))) pe_int))
    (pss_cons (ps_if (PW.pt (pw_and (pt_cmpR op_eq (pv 10) (pv 4) (nomark _)) (pw_and1 (pt_cmpR op_eq (pe_op op_mod (pv 2) pe_int) pe_int (nomark _)))))
     (pss_one (ps_set (i:=11) scMenu.nd rfl (Or.inl rfl) (pe_op op_add (pe_op op_mod (pe_op op_add (pe_ix ix_list (pv 6) (pv 10) (fun _ _=>rfl)) (pe_op op_fdiv (pv 7) pe_int)) pe_int) (pe_op op_mul (pe_op op_mod (pv 7) pe_int) pe_int)))) pss_nil)
    (pss_one (ps_set (i:=9) scMenu.nd rfl (Or.inl rfl) (pe_op op_add_str (pv 9) (pe_ix ix_str (pv 1) (pv 11) (fun _ _=>rfl))))))))
   (pss_one (ps_expr (pe_bm PySem.F.plainAttrs_list PySem.F.slot_list_append PySem.F.type_list_append mt_append (pv 8) (pa_cons (pv 9) pa_nil)))))))
  (pss_one (ps_ret (pe_op op_cat (pv 8) (pe_lst (pa_cons (pe_op op_add_str (pe_ix ix_list (pv 8) pe_int (fun _ _=>rfl)) (pe_ix ix_str (pv 1) (pe_ix ix_list (pv 6) pe_int (fun _ _=>rfl)) (fun _ _=>rfl)))
   (pa_cons (pe_op op_add_str (pe_ix ix_list (pv 8) pe_int (fun _ _=>rfl)) (pe_ix ix_str (pv 1) (pe_op op_mod (pe_op op_fdiv (pv 5) pe_int) pe_int) (fun _ _=>rfl))) pa_nil)))))))))))))),?_⟩
 have hb:=big
 have hz : W62.length <= sizeLine:=by decide +kernel
 refine ⟨_,rfl,a,ns,0,rfl,hS,h63,by decide,by decide,?_⟩
 generalize cellZ ns 0 = c
 have m0 : 0 <= c % 19:=Int.emod_nonneg _ (by decide)
 have m1 : c % 19 < 19:=Int.emod_lt_of_pos _ (by decide)
 refine ⟨_,rfl,_,_,rfl,rfl,(by show (0 : Int) < _; decide),_,_,rfl,rfl,?_⟩
 dsimp only
 generalize hn : 1 + c % 19 = n
 have n0 : 1 <= n:=by omega
 have n1 : n <= 19:=by omega
 clear m0 m1 hn
 refine ⟨_,rfl,_,_,rfl,rfl,⟨by decide,by decide⟩,_,rfl,_,_,rfl,rfl,(by show (0 : Int) < n; omega),?_⟩
 dsimp only
 generalize c / 19 % n = at'
 refine ⟨_,rfl,_,_,rfl,rfl,(by show (0 : Int) < _; decide),?_⟩
 dsimp only
 generalize c % 2147483647 = v0
 refine ⟨(by show 0 <= sizeLine; decide),fun p hp=>?_⟩
 have k0:=same_new hp (.lst [])
 refine ⟨_,rfl,n,rfl,by omega,by omega,?_⟩
 refine for_range (lo:=0) (n:=n.toNat) (fun i σ' H'=>Same H H' /\ ∃ (is : List Int) (x : Int) (u : Option V),σ' = [some (.ref a),some (.str W62),some (.int c),some (.int n),some (.int at'),some (.int x),some (.ref p),u,none,none,none,none] /\ H' p = some (.lst (is.map V.int)) /\ is.length = i /\ ∀ z ∈ is,0 <= z /\ z < 62) ?_ ?_ ?_
 ·exact ⟨k0,[],v0,none,rfl,upd_same,rfl,fun _ h=>nomatch h⟩
 ·rintro i σ' H' hi ⟨g,is,x,u,rfl,hl,hil,his⟩
  refine ⟨_,rfl,x,rfl,?_⟩
  refine ⟨_,rfl,.inl ⟨rfl,_,SqL.of hl⟩,_,rfl,_,_,rfl,rfl,(by show (0 : Int) < _; decide),p,_,_,rfl,rfl,hl,by rw [List.length_map,hil]; omega,?_⟩
  refine ⟨keep_upd hp g _,is ++ [mixedZ x % 62],_,_,rfl,by rw [upd_same,List.map_append] <;> rfl,by rw [List.length_append,hil] <;> rfl,fun z hzm=>?_⟩
  rcases List.mem_append.mp hzm with k | k
  ·exact his z k
  ·rw [List.mem_singleton.mp k]
   exact ⟨Int.emod_nonneg _ (by decide),Int.emod_lt_of_pos _ (by decide)⟩
 rintro σ' H1 ⟨g1,is,x,u,rfl,hl,hil,his⟩
 refine ⟨(by show 0 <= sizeLine; decide),fun r hr1=>?_⟩
 have hrp : r ≠ p:=(ne_of_none hl hr1).symm
 have hrH : H r = none:=g1.free hr1
 refine ⟨8,rfl,by decide,by decide,?_⟩
 refine for_range (lo:=0) (n:=8) (fun i σ' H'=>Same H H' /\ ∃ (ws : List Str) (u7 u9 u10 u11 : Option V),σ' = [some (.ref a),some (.str W62),some (.int c),some (.int n),some (.int at'),some (.int x),some (.ref p),u7,some (.ref r),u9,u10,u11] /\ H' p = some (.lst (is.map V.int)) /\ H' r = some (.lst (ws.map V.str)) /\ ws.length = i /\ ∀ z ∈ ws,z.length = n.toNat /\ allGood z) ?_ ?_ ?_
 ·exact ⟨g1.trans (same_new hr1 _),[],_,_,_,_,rfl,by rw [upd_ne hrp.symm]; exact hl,upd_same,rfl,fun _ h=>nomatch h⟩
 ·rintro i σ' H' hi ⟨g,ws,u7,u9,u10,u11,rfl,hlp,hlr,hwl,hws⟩
  refine ⟨_,rfl,n,rfl,by omega,by omega,?_⟩
  refine for_range (lo:=0) (n:=n.toNat) (fun j σ2 H2=>H2 = H' /\ ∃ (y : Str) (u10 u11 : Option V),σ2 = [some (.ref a),some (.str W62),some (.int c),some (.int n),some (.int at'),some (.int x),some (.ref p),some (.int (0 + (i : Int))),some (.ref r),some (.str y),u10,u11] /\ y.length = j /\ allGood y) ?_ ?_ ?_
  ·exact ⟨rfl,("" : Str),_,_,rfl,by decide +kernel,by unfold allGood; decide +kernel⟩
  ·rintro j σ2 H2 hj ⟨rfl,y,v10,v11,rfl,hy,gy⟩
   obtain ⟨z,hzm,hz1⟩:=at_int (is:=is) (k:=0 + (j : Int)) (by omega) (by omega)
   obtain ⟨z0,z1⟩:=his z hzm
   have fin : ∀ (sg : Int),0 <= sg -> sg < 62 -> ∀ (t : TS) (N : St -> Hp -> Prop) (R : Ends),R.nx = N -> (∀ d : Nat,good d = true -> N [some (.ref a),some (.str W62),some (.int c),some (.int n),some (.int at'),some (.int x),some (.ref p),some (.int (0 + (i : Int))),some (.ref r),some (.str (y ++ (⟨#[d]⟩ : Str))),some (.int (0 + (j : Int))),some (.int sg)] H2) ->
     t = tAsg (tOp (fun x y H Q=>∃ i j,x = .str i /\ y = .str j /\ i.length + j.length <= sizeLine /\ Q (.str (i ++ j)) H) (tVar 9) (tOp rIxS (tVar 1) (tVar 11))) (gName 9) -> t R [some (.ref a),some (.str W62),some (.int c),some (.int n),some (.int at'),some (.int x),some (.ref p),some (.int (0 + (i : Int))),some (.ref r),some (.str y),some (.int (0 + (j : Int))),some (.int sg)] H2:=by
    rintro sg s0 s1 t N R rfl hN rfl
    obtain ⟨d,hd,gd⟩:=w62_at s0 s1
    exact ⟨_,rfl,_,rfl,_,rfl,_,_,_,rfl,rfl,hz,hd,_,_,rfl,rfl,(by show y.length + 1 <= sizeLine; omega),hN d gd⟩
   have inv : ∀ (sg : Int) (d : Nat),good d = true -> _:=fun sg d gd=>(⟨rfl,y ++ (⟨#[d]⟩ : Str),some (.int (0 + (j : Int))),some (.int sg),rfl,by rw [len_app,hy] <;> rfl,gy.app (by unfold allGood; simp [cs,gd])⟩ : H2 = H2 /\ ∃ (y' : Str) (u10 u11 : Option V),[some (V.ref a),some (.str W62),some (.int c),some (.int n),some (.int at'),some (.int x),some (.ref p),some (.int (0 + (i : Int))),some (.ref r),some (.str (y ++ (⟨#[d]⟩ : Str))),some (.int (0 + (j : Int))),some (.int sg)] = [some (.ref a),some (.str W62),some (.int c),some (.int n),some (.int at'),some (.int x),some (.ref p),some (.int (0 + (i : Int))),some (.ref r),some (.str y'),u10,u11] /\ y'.length = j + 1 /\ allGood y')
   refine ⟨_,rfl,_,rfl,p,_,_,_,rfl,rfl,SqL.of hlp,hz1,_,rfl,_,_,rfl,rfl,.inl ⟨by decide,by decide⟩,_,rfl,_,rfl,rfl,.inr ⟨_,rfl,_,_,rfl,rfl,.inl ⟨by omega,by omega⟩,_,_,rfl,rfl,_,_,rfl,rfl,(by show (0 : Int) < _; decide),?_⟩⟩
   have s0 : ∀ q : Int,0 <= q % 62:=fun q=>Int.emod_nonneg _ (by decide)
   have s1 : ∀ q : Int,q % 62 < 62:=fun q=>Int.emod_lt_of_pos _ (by decide)
   refine ⟨_,rfl,_,rfl,rfl,_,rfl,?_⟩
   refine ite2 (fun d1=>?_) (fun d1=>?_)
   ·refine ⟨_,rfl,_,_,rfl,rfl,(by show (0 : Int) < _; decide),rfl,_,rfl,?_⟩
    refine ite2 (fun d2=>?_) (fun d2=>?_)
    ·refine ⟨_,rfl,_,rfl,p,_,_,_,rfl,rfl,SqL.of hlp,hz1,_,rfl,_,_,rfl,rfl,⟨by decide,by decide⟩,_,_,rfl,rfl,_,_,rfl,rfl,(by show (0 : Int) < _; decide),_,rfl,_,_,rfl,rfl,(by show (0 : Int) < _; decide),_,_,rfl,rfl,.inr ⟨by decide,by decide⟩,_,_,rfl,rfl,?_⟩
     have r0 : 0 <= (z + (0 + (i : Int)) / 2) % 26:=Int.emod_nonneg _ (by decide)
     have r1 : (z + (0 + (i : Int)) / 2) % 26 < 26:=Int.emod_lt_of_pos _ (by decide)
     have r2 : 0 <= (0 + (i : Int)) % 2:=Int.emod_nonneg _ (by decide)
     have r3 : (0 + (i : Int)) % 2 < 2:=Int.emod_lt_of_pos _ (by decide)
     exact fin _ (by omega) (by omega) (tAsg _ _) _ _ rfl (fun d gd=>inv _ d gd) rfl
    ·exact fin _ (s0 _) (s1 _) (tAsg _ _) _ _ rfl (fun d gd=>inv _ d gd) rfl
   ·exact fin _ (s0 _) (s1 _) (tAsg _ _) _ _ rfl (fun d gd=>inv _ d gd) rfl
  ·rintro σ2 H2 ⟨rfl,y,v10,v11,rfl,hy,gy⟩
   refine ⟨_,rfl,.inl ⟨rfl,_,SqL.of hlr⟩,_,rfl,r,_,_,rfl,rfl,hlr,by rw [List.length_map,hwl]; omega,?_⟩
   refine ⟨keep_upd hrH g _,ws ++ [y],_,_,_,_,rfl,by rw [upd_ne hrp.symm]; exact hlp,by rw [upd_same,List.map_append] <;> rfl,by rw [List.length_append,hwl] <;> rfl,fun z hzm=>?_⟩
   rcases List.mem_append.mp hzm with k | k
   ·exact hws z k
   ·rw [List.mem_singleton.mp k]
    exact ⟨hy,gy⟩
 ·rintro σ' H2 ⟨g,ws,u7,u9,u10,u11,rfl,hlp,hlr,hwl,hws⟩
  obtain ⟨y0,m0,e0⟩:=at_str (ws:=ws) (k:=0) (by decide) (by omega)
  obtain ⟨y1,m1,e1⟩:=at_str (ws:=ws) (k:=1) (by decide) (by omega)
  obtain ⟨l0,q0⟩:=hws y0 m0
  obtain ⟨l1,q1⟩:=hws y1 m1
  obtain ⟨s0,sm0,se0⟩:=at_int (is:=is) (k:=0) (by decide) (by omega)
  obtain ⟨b0,b1⟩:=his s0 sm0
  obtain ⟨d0,hd0,gd0⟩:=w62_at b0 b1
  obtain ⟨d1,hd1,gd1⟩:=w62_at (i:=x / 62 % 62) (Int.emod_nonneg _ (by decide)) (Int.emod_lt_of_pos _ (by decide))
  refine ⟨_,rfl,_,rfl,r,_,_,_,rfl,rfl,SqL.of hlr,e0,_,rfl,_,rfl,p,_,_,_,rfl,rfl,SqL.of hlp,se0,_,_,_,rfl,rfl,hz,hd0,_,_,rfl,rfl,(by show y0.length + 1 <= sizeLine; omega),?_⟩
  refine ⟨_,rfl,r,_,_,_,rfl,rfl,SqL.of hlr,e1,_,rfl,_,rfl,_,_,rfl,rfl,⟨by decide,by decide⟩,_,_,rfl,rfl,(by show (0 : Int) < _; decide),_,_,_,rfl,rfl,hz,hd1,_,_,rfl,rfl,(by show y1.length + 1 <= sizeLine; omega),?_⟩
  refine ⟨(by show 2 <= sizeLine; decide),fun p3 hp3=>?_⟩
  refine ⟨r,p3,_,_,rfl,rfl,by rw [upd_ne (ne_of_none hlr hp3)]; exact hlr,upd_same,by rw [List.length_map,hwl]; show 8 + 2 <= sizeLine; decide,fun p4 hp4=>?_⟩
  have g4 : Same H (upd (upd H2 p3 (.lst [.str (y0 ++ (⟨#[d0]⟩ : Str)),.str (y1 ++ (⟨#[d1]⟩ : Str))])) p4 (.lst (ws.map V.str ++ [.str (y0 ++ (⟨#[d0]⟩ : Str)),.str (y1 ++ (⟨#[d1]⟩ : Str))]))):=(g.trans (same_new hp3 _)).trans (same_new hp4 _)
  refine q (ws ++ [y0 ++ (⟨#[d0]⟩ : Str),y1 ++ (⟨#[d1]⟩ : Str)]) p4 _ g4 (by rw [upd_same,List.map_append] <;> rfl) ((g.trans (same_new hp3 _)).free hp4) (by rw [List.length_append,hwl] <;> rfl) fun z hzm=>?_
  rcases List.mem_append.mp hzm with k | k
  ·obtain ⟨k1,k2⟩:=hws z k
   exact ⟨by omega,by omega,k2⟩
  ·rcases List.mem_cons.mp k with k | k
   ·rw [k]
    exact ⟨by rw [len_app,l0]; show 1 <= _ + 1; omega,by rw [len_app,l0]; show _ + 1 <= 20; omega,q0.app (by unfold allGood; simp [cs,gd0])⟩
   ·rw [List.mem_singleton.mp k]
    exact ⟨by rw [len_app,l1]; show 1 <= _ + 1; omega,by rw [len_app,l1]; show _ + 1 <= 20; omega,q1.app (by unfold allGood; simp [cs,gd1])⟩
end
end D
namespace D
open PySem L2
def numZ (ns : List Int) (k : Int) : Int:=(if cellZ ns 1 / 42 % 2 = 1 then 1 + cellZ ns 2 % 10 ^ 59 else 1 + cellZ ns 2 % 9) + k * (1 + cellZ ns 1 % 42) % 43 * (1 + cellZ ns 1 / 84 % 1000)
def spNum (K : PySem.W.Frag) : Sp:=fun vs H Q _=>∃ (a : Addr) (ns : List Int) (k : Int),vs = [.ref a,.int k] /\ SqL K H a (ns.map V.int) /\ ns.length <= 63 /\ 0 <= k /\ k <= 1000 /\ Q (.int (numZ ns k)) H
def Rw (ws : List Str) : Prop:=1 <= ws.length /\ ws.length <= 200 /\ ∀ x ∈ ws,Wd x
def formW (last : Str) (b : Str × Str) : Str:=⟨((cs last).take (last.length - b.1.length) ++ cs b.2).toArray⟩
structure BOk (last : Str) (bs : List (Str × Str)) : Prop where
 len : bs.length <= 5
 fit : ∀ b ∈ bs,b.1.length <= last.length /\ (cs last).drop (last.length - b.1.length) = cs b.1 /\ b.2.length <= 20 /\ allGood b.1 /\ allGood b.2 /\ 1 <= (formW last b).length /\ (formW last b).length <= 20
 nd : (last :: bs.map (formW last)).Nodup
structure TlOk (sc : Str) (ph : List Str) (bs : List (Str × Str)) (ms : List Str) : Prop where
 hsc : sc ∈ (["all","part","here","else"] : List Str)
 hlen : ph.length <= 4
 hph : ∀ x ∈ ph,Wd x
 hbs : ∃ ws last,ph = ws ++ [last] /\ BOk last bs
 hms : Rw ms
def Leaf (n : Int) (t : Th) : Prop:=(∃ ws,t = .say n ws /\ Rw ws) ∨ ∃ sc ph bs ms,t = .tell n sc ph bs ms /\ TlOk sc ph bs ms
def spThing (K : PySem.W.Frag) : Sp:=fun vs H Q _=>∃ (c n : Int) (m : Addr) (ws : List Str) (k : Int),vs = [.int c,.int n,.ref m,.int k] /\ SqL K H m (ws.map V.str) /\ ws.length = 10 /\ (∀ x ∈ ws,Wd x) /\ 1 <= k /\ k <= 200 /\ ∀ (t : Th) v H',Same H H' -> thR H' t v -> Leaf n t -> Q v H'
section
variable {P : Program} {w : World} {K : PySem.W.Frag} {mg : Str -> Option Value} {base : Heap} {f : Addr} {fd : FuncData}
theorem scRow : FnScope ["_law_cell_here","_law_menu_here","_law_many_here","_law_number_here","_law_words","_law_k"] ["_law_cell_here","_law_menu_here","_law_many_here"] (defScope s_l_row):=⟨rfl,rfl,rfl,by decide +kernel,rfl,by decide +kernel,by decide +kernel⟩
set_option maxHeartbeats 4000000 in
theorem ok_row (F : Fun K "_law_row" "_law_row" s_l_row f fd) (T : Nm mg) (GM : Def P w K mg base CX0 1 "_law_mixed" ["_law_number_here"] spMixed) : FnOk P w K mg base CX0 2 f fd ["_law_cell_here","_law_menu_here","_law_many_here"] (spRow K):=by
 refine F.ok scRow (fun vs H Q E h=>?_) (fun cdv A outer s H vs Q E hr h=>?_)
 ·obtain ⟨c,m,ws,k,rfl,_⟩:=h
  rfl
 obtain ⟨c,m,ws,k,rfl,hS,hw,k0,k1,q⟩:=h
 refine ⟨_,pss_cons (ps_set (i:=3) scRow.nd rfl (Or.inl rfl) (pe_def GM hr (pa_cons (pv 0) pa_nil)))
  (pss_cons (ps_set (i:=4) scRow.nd rfl (Or.inl rfl) (pe_lst pa_nil))
  (pss_cons (ps_for PassesOwn.never rfl (pi_range1 rfl T.range (pa_cons (pv 2) pa_nil)) (pg_name (i:=5) scRow.nd rfl (Or.inl rfl))
   (pss_cons (ps_set (i:=3) scRow.nd rfl (Or.inl rfl) (pe_def GM hr (pa_cons (pv 3) pa_nil)))
   (pss_one (ps_expr (pe_bm PySem.F.plainAttrs_list PySem.F.slot_list_append PySem.F.type_list_append mt_append (pv 4) (pa_cons (pe_ix ix_list (pv 1) (pe_op op_mod (pv 3) pe_int) (fun _ _=>rfl)) pa_nil))))))
  (pss_one (ps_ret (pe_callTy call_tuple_of rfl T.tuple PyProof.Rows.boot_tuple (pa_cons (pv 4) pa_nil)))))),?_⟩
 have hb:=big
 refine ⟨_,rfl,c,rfl,?_⟩
 refine ⟨(by show 0 <= sizeLine; decide),fun p hp=>?_⟩
 refine ⟨_,rfl,k,rfl,by omega,by omega,?_⟩
 refine for_range (lo:=0) (n:=k.toNat) (fun i σ' H'=>Same H H' /\ ∃ (zs : List Str) (x : Int) (u : Option V),σ' = [some (.int c),some (.ref m),some (.int k),some (.int x),some (.ref p),u] /\ H' p = some (.lst (zs.map V.str)) /\ zs.length = i /\ ∀ z ∈ zs,z ∈ ws) ?_ ?_ ?_
 ·exact ⟨same_new hp _,[],_,none,rfl,upd_same,rfl,fun _ h=>nomatch h⟩
 ·rintro i σ' H' hi ⟨g,zs,x,u,rfl,hl,hzl,hz⟩
  obtain ⟨y,hy,ey⟩:=at_str (ws:=ws) (k:=mixedZ x % 10) (Int.emod_nonneg _ (by decide)) (by rw [hw]; exact Int.emod_lt_of_pos _ (by decide))
  refine ⟨_,rfl,x,rfl,?_⟩
  refine ⟨_,rfl,.inl ⟨rfl,_,SqL.of hl⟩,_,rfl,_,rfl,_,_,rfl,rfl,(by show (0 : Int) < _; decide),m,_,_,_,rfl,rfl,g.seq hS,ey,p,_,_,rfl,rfl,hl,by rw [List.length_map,hzl]; omega,?_⟩
  refine ⟨keep_upd hp g _,zs ++ [y],_,_,rfl,by rw [upd_same,List.map_append] <;> rfl,by rw [List.length_append,hzl] <;> rfl,fun z hzm=>?_⟩
  rcases List.mem_append.mp hzm with j | j
  ·exact hz z j
  ·rw [List.mem_singleton.mp j]; exact hy
 ·rintro σ' H' ⟨g,zs,x,u,rfl,hl,hzl,hz⟩
  refine ⟨_,rfl,p,_,rfl,.inl ⟨SqL.of hl,fun r hr1=>?_⟩⟩
  exact q zs r _ (g.trans (same_new hr1 _)) upd_same hzl hz
theorem scNum : FnScope ["_law_script","_law_k","_law_cell_here","_law_base"] ["_law_script","_law_k"] (defScope s_l_number):=⟨rfl,rfl,rfl,by decide +kernel,rfl,by decide +kernel,by decide +kernel⟩
set_option maxHeartbeats 4000000 in
theorem ok_num (F : Fun K "_law_number" "_law_number" s_l_number f fd) (GC : Def P w K mg base CX0 1 "_law_cell" ["_law_script","_law_k"] (spCell K)) : FnOk P w K mg base CX0 2 f fd ["_law_script","_law_k"] (spNum K):=by
 refine F.ok scNum (fun vs H Q E h=>?_) (fun cdv A outer s H vs Q E hr h=>?_)
 ·obtain ⟨a,ns,k,rfl,_⟩:=h
  rfl
 obtain ⟨a,ns,k,rfl,hS,h63,k0,k1,q⟩:=h
 refine ⟨_,pss_cons (ps_set (i:=2) scNum.nd rfl (Or.inl rfl) (pe_def GC hr (pa_cons (pv 0) (pa_cons pe_int pa_nil))))
  (pss_cons (ps_set (i:=3) scNum.nd rfl (Or.inl rfl) (pe_op op_add pe_int (pe_op op_mod (pe_def GC hr (pa_cons (pv 0) (pa_cons pe_int pa_nil))) pe_int)))
  (pss_cons (ps_if (pt_cmpR op_eq (pe_op op_mod (pe_op op_fdiv (pv 2) pe_int) pe_int) pe_int (nomark _)) (pss_one (ps_set (i:=3) scNum.nd rfl (Or.inl rfl) (pe_op op_add pe_int (pe_op op_mod (pe_def GC hr (pa_cons (pv 0) (pa_cons pe_int pa_nil))) (pe_op op_pow pe_int pe_int))))) pss_nil)
  (pss_one (ps_ret (pe_op op_add (pv 3) (pe_op op_mul (pe_op op_mod (pe_op op_mul (pv 1) (pe_op op_add pe_int (pe_op op_mod (pv 2) pe_int))) pe_int) (pe_op op_add pe_int (pe_op op_mod (pe_op op_fdiv (pv 2) pe_int) pe_int)))))))),?_⟩
 have r0 : ∀ x : Int,0 <= x % 43:=fun x=>Int.emod_nonneg _ (by decide)
 have r1 : ∀ x : Int,x % 43 < 43:=fun x=>Int.emod_lt_of_pos _ (by decide)
 have fin : ∀ b : Int,b = (if cellZ ns 1 / 42 % 2 = 1 then 1 + cellZ ns 2 % 10 ^ 59 else 1 + cellZ ns 2 % 9) -> ∀ t : TS,t = tRet (tOp (rI0 fun i j=>.int (i + j)) (tVar 3) (tOp (rI CMul fun i j=>.int (i * j)) (tOp (rI (fun _ j=>0 < j) fun i j=>.int (i % j)) (tOp (rI CMul fun i j=>.int (i * j)) (tVar 1) (tOp (rI0 fun i j=>.int (i + j)) (tC (.int 1)) (tOp (rI (fun _ j=>0 < j) fun i j=>.int (i % j)) (tVar 2) (tC (.int 42))))) (tC (.int 43))) (tOp (rI0 fun i j=>.int (i + j)) (tC (.int 1)) (tOp (rI (fun _ j=>0 < j) fun i j=>.int (i % j)) (tOp (rI CDiv fun i j=>.int (i / j)) (tVar 2) (tC (.int 84))) (tC (.int 1000)))))) ->
   t { nx:=fun _ H'=>Q .non H',rt:=Q } [some (.ref a),some (.int k),some (.int (cellZ ns 1)),some (.int b)] H:=by
  rintro b hb t rfl
  have e : numZ ns k = b + k * (1 + cellZ ns 1 % 42) % 43 * (1 + cellZ ns 1 / 84 % 1000):=by rw [hb] <;> rfl
  rw [e] at q
  have b0:=r0 (k * (1 + cellZ ns 1 % 42))
  have b1:=r1 (k * (1 + cellZ ns 1 % 42))
  exact ⟨_,rfl,_,rfl,_,rfl,_,_,rfl,rfl,(by show (0 : Int) < _; decide),_,_,rfl,rfl,_,_,rfl,rfl,.inl ⟨by omega,by omega⟩,_,_,rfl,rfl,(by show (0 : Int) < _; decide),_,rfl,_,_,rfl,rfl,⟨by decide,by decide⟩,_,_,rfl,rfl,(by show (0 : Int) < _; decide),_,_,rfl,rfl,_,_,rfl,rfl,.inl ⟨by omega,by omega⟩,_,_,rfl,rfl,q⟩
 refine ⟨_,rfl,a,ns,1,rfl,hS,h63,by decide,by decide,?_⟩
 refine ⟨_,rfl,a,ns,2,rfl,hS,h63,by decide,by decide,_,_,rfl,rfl,(by show (0 : Int) < _; decide),_,_,rfl,rfl,?_⟩
 refine ⟨_,rfl,_,_,rfl,rfl,⟨by decide,by decide⟩,_,_,rfl,rfl,(by show (0 : Int) < _; decide),rfl,_,rfl,?_⟩
 refine ite2 (fun d=>?_) (fun d=>?_)
 ·have d' : cellZ ns 1 / 42 % 2 = 1:=V.int.inj (of_decide_eq_true d)
  refine ⟨_,rfl,a,ns,2,rfl,hS,h63,by decide,by decide,_,_,rfl,rfl,⟨by decide,by decide,by decide⟩,_,_,rfl,rfl,(by show (0 : Int) < 10 ^ (59 : Int).toNat; decide),_,_,rfl,rfl,?_⟩
  exact fin _ (by rw [if_pos d'] <;> rfl) (tRet _) rfl
 ·have d' : ¬ cellZ ns 1 / 42 % 2 = 1:=fun z=>d (decide_eq_true (congrArg V.int z))
  exact fin _ (by rw [if_neg d']) (tRet _) rfl
end
end D
namespace D
open PySem L2
def spPlain : Sp:=fun vs H Q _=>∃ (m : Addr) (ws : List Str) (c : Int),vs = [.ref m,.int c] /\ H m = some (.lst (ws.map V.str)) /\ ws.length = 10 /\ (∀ x ∈ ws,Wd x) /\ ∀ (zs : List Str) H',H' m = some (.lst (zs.map V.str)) -> (∀ b o,b ≠ m -> H b = some o -> H' b = some o) -> zs.length = 10 -> (∀ x ∈ zs,Wd x) -> Q (.ref m) H'
abbrev ten : List Str:=["say","tell","part","end","all","here","else","none","text","undo"]
theorem ten_wd : ∀ x ∈ ten,Wd x:=by
 intro x hx
 simp only [List.mem_cons,List.not_mem_nil,or_false] at hx
 rcases hx with rfl | rfl | rfl | rfl | rfl | rfl | rfl | rfl | rfl | rfl <;> exact ⟨by decide +kernel,by decide +kernel,by unfold allGood; decide +kernel⟩
section
variable {P : Program} {w : World} {K : PySem.W.Frag} {mg : Str -> Option Value} {base : Heap} {f : Addr} {fd : FuncData}
theorem scPlain : FnScope ["_law_menu_here","_law_cell_here","_law_some","_law_k"] ["_law_menu_here","_law_cell_here"] (defScope s_l_plain_words):=⟨rfl,rfl,rfl,by decide +kernel,rfl,by decide +kernel,by decide +kernel⟩
set_option maxHeartbeats 4000000 in
theorem ok_plain (F : Fun K "_law_plain_words" "_law_plain_words" s_l_plain_words f fd) (T : Nm mg) : FnOk P w K mg base CX0 1 f fd ["_law_menu_here","_law_cell_here"] spPlain:=by
 refine F.ok scPlain (fun vs H Q E h=>?_) (fun cdv A outer s H vs Q E hr h=>?_)
 ·obtain ⟨m,ws,c,rfl,_⟩:=h
  rfl
 obtain ⟨m,ws,c,rfl,hm,hl,hw,q⟩:=h
 refine ⟨_,pss_cons (ps_set (i:=2) scPlain.nd rfl (Or.inl rfl) (pe_lst (pa_cons pe_str (pa_cons pe_str (pa_cons pe_str (pa_cons pe_str (pa_cons pe_str (pa_cons pe_str (pa_cons pe_str (pa_cons pe_str (pa_cons pe_str (pa_cons pe_str pa_nil))))))))))))
  (pss_cons (ps_if (pt_cmpR op_eq (pe_op op_mod (pv 1) pe_int) pe_int (nomark _))
   (pss_one (ps_for PassesOwn.never rfl (pi_range1 rfl T.range (pa_cons (pe_op op_add pe_int (pe_op op_mod (pe_op op_fdiv (pv 1) pe_int) pe_int)) pa_nil)) (pg_name (i:=3) scPlain.nd rfl (Or.inl rfl))
    (pss_one (ps_asg (pe_ix ix_list (pv 2) (pe_op op_mod (pe_op op_add (pe_op op_fdiv (pv 1) pe_int) (pe_op op_mul pe_int (pv 3))) pe_int) (fun _ _=>rfl)) (pg_sub (pv 0) (pe_op op_add (pe_op op_mul pe_int (pv 3)) pe_int) set_list))))) pss_nil)
  (pss_one (ps_ret (pv 0)))),?_⟩
 have hb:=big
 refine ⟨(by show 10 <= sizeLine; decide),fun p hp=>?_⟩
 have g1:=same_new hp (.lst (ten.map V.str))
 have e1 : upd H p (.lst (ten.map V.str)) p = some (.lst (ten.map V.str)):=upd_same
 have m1:=g1 _ _ hm
 have pm : m ≠ p:=ne_of_none hm hp
 show (tSeq _ _ : TS) _ _ (upd H p (.lst (ten.map V.str)))
 generalize upd H p (.lst (ten.map V.str)) = H1 at g1 e1 m1 ⊢
 refine ⟨_,rfl,_,_,rfl,rfl,(by show (0 : Int) < _; decide),rfl,_,rfl,?_⟩
 refine ite2 (fun _=>?_) (fun _=>?_)
 ·have x0 : 0 <= c / 4 % 3:=Int.emod_nonneg _ (by decide)
  have x1 : c / 4 % 3 < 3:=Int.emod_lt_of_pos _ (by decide)
  refine ⟨_,rfl,_,_,rfl,rfl,⟨by decide,by decide⟩,_,_,rfl,rfl,(by show (0 : Int) < _; decide),_,_,rfl,rfl,2 + c / 4 % 3,rfl,by omega,by omega,?_⟩
  refine for_range (lo:=0) (n:=(2 + c / 4 % 3).toNat) (fun i σ' H'=>∃ (zs : List Str) (u : Option V),σ' = [some (.ref m),some (.int c),some (.ref p),u] /\ H' m = some (.lst (zs.map V.str)) /\ H' p = some (.lst (ten.map V.str)) /\ (∀ b o,b ≠ m -> H b = some o -> H' b = some o) /\ zs.length = 10 /\ ∀ x ∈ zs,Wd x) ?_ ?_ ?_
  ·exact ⟨ws,none,rfl,m1,e1,fun b o _ e=>g1 _ _ e,hl,hw⟩
  ·rintro i σ' H' hi ⟨zs,u,rfl,h1,h2,h3,h4,h5⟩
   obtain ⟨y,hy,ey⟩:=at_str (ws:=ten) (k:=(c / 12 + 3 * (0 + (i : Int))) % 10) (Int.emod_nonneg _ (by decide)) (Int.emod_lt_of_pos _ (by decide))
   refine ⟨_,rfl,_,rfl,_,_,rfl,rfl,⟨by decide,by decide⟩,_,rfl,_,_,rfl,rfl,.inl ⟨by decide,by decide⟩,_,_,rfl,rfl,_,_,rfl,rfl,(by show (0 : Int) < _; decide),p,_,_,_,rfl,rfl,SqL.of h2,ey,?_⟩
   have hi4 : i < 4:=by omega
   have hix : ixN (zs.map V.str).length (2 * (0 + (i : Int)) + 1) = some (2 * i + 1):=by
    unfold ixN
    rw [List.length_map,h4,if_pos (by omega),if_pos (by omega)]
    congr 1
    omega
   refine ⟨_,rfl,_,rfl,_,_,rfl,rfl,.inl ⟨by decide,by decide⟩,_,_,rfl,rfl,m,_,_,_,rfl,rfl,h1,hix,?_⟩
   refine ⟨zs.set (2 * i + 1) y,_,rfl,by rw [upd_same,List.map_set],by rw [upd_ne pm.symm]; exact h2,fun b o hb e=>by rw [upd_ne hb]; exact h3 b o hb e,by rw [List.length_set]; exact h4,fun x hx=>?_⟩
   rcases List.mem_or_eq_of_mem_set hx with k | k
   ·exact h5 x k
   ·rw [k]; exact ten_wd y hy
  ·rintro σ' H' ⟨zs,u,rfl,h1,h2,h3,h4,h5⟩
   exact ⟨_,rfl,q zs H' h1 h3 h4 h5⟩
 ·exact ⟨_,rfl,q ws H1 m1 (fun b o _ e=>g1 _ _ e) hl hw⟩
end
end D
namespace D
open PySem L2
def lvl (H : Hp) (ts : List Th) (l : Addr) : Prop:=∃ xs,H l = some (.lst xs) /\ thsR H ts xs
structure Stk (H0 H : Hp) (np ip : Addr) (nums : List Int) (tss : List (List Th)) (ls : List Addr) : Prop where
 same : Same H0 H
 hn : H np = some (.lst (nums.map V.int))
 hi : H ip = some (.lst (ls.map V.ref))
 lv : Paired (lvl H) tss ls
 nd : ls.Nodup
 ni : np ≠ ip
 nn : np ∉ ls
 ii : ip ∉ ls
 fn : H0 np = none
 fi : H0 ip = none
 fl : ∀ l ∈ ls,H0 l = none
theorem lvls_keep {H H' : Hp} (g : TSame H H') : ∀ {tss : List (List Th)} {ls : List Addr},Paired (lvl H) tss ls -> (∀ l ∈ ls,∀ o,H l = some o -> H' l = some o) -> Paired (lvl H') tss ls
 | _,_,.nil,_=>.nil
 | _ :: _,l :: _,.cons ⟨xs,h1,h2⟩ r,k=>.cons ⟨xs,k l List.mem_cons_self _ h1,h2.mono g⟩ (lvls_keep g r fun m hm=>k m (List.mem_cons_of_mem _ hm))
theorem paired_split {α β : Type} {F : α -> β -> Prop} : ∀ {l l' : List α} {m : List β},Paired F (l ++ l') m -> ∃ m1 m2,m = m1 ++ m2 /\ Paired F l m1 /\ Paired F l' m2
 | [],_,m,h=>⟨[],m,rfl,.nil,h⟩
 | _ :: _,_,_ :: _,.cons q r=>by
  obtain ⟨m1,m2,e,h1,h2⟩:=paired_split r
  exact ⟨_ :: m1,m2,by rw [e]; rfl,.cons q h1,h2⟩
theorem paired_app {α β : Type} {F : α -> β -> Prop} : ∀ {l l' : List α} {m m' : List β},Paired F l m -> Paired F l' m' -> Paired F (l ++ l') (m ++ m')
 | _,_,_,_,.nil,h=>h
 | _ :: _,_,_ :: _,_,.cons q r,h=>.cons q (paired_app r h)
theorem paired_len {α β : Type} {F : α -> β -> Prop} : ∀ {l : List α} {m : List β},Paired F l m -> l.length = m.length
 | _,_,.nil=>rfl
 | _ :: _,_ :: _,.cons _ r=>by rw [List.length_cons,List.length_cons,paired_len r]
def spEnded : Sp:=fun vs H Q _=>∃ (H0 : Hp) (np ip : Addr) (nums : List Int) (n : Int) (tss : List (List Th)) (ts1 ts2 : List Th) (ls : List Addr),vs = [.ref np,.ref ip] /\ Stk H0 H np ip (nums ++ [n]) (tss ++ [ts1,ts2]) ls /\ ts1.length <= 1000 /\ ts2.length <= 1000 /\
 ∀ H' ls',Stk H0 H' np ip nums (tss ++ [ts1 ++ [.part n (F.of ts2)]]) ls' -> Q .non H'
section
variable {P : Program} {w : World} {K : PySem.W.Frag} {mg : Str -> Option Value} {base : Heap} {f : Addr} {fd : FuncData}
theorem scEnded : FnScope ["_law_numbers","_law_inner","_law_part"] ["_law_numbers","_law_inner"] (defScope s_l_ended):=⟨rfl,rfl,rfl,by decide +kernel,rfl,by decide +kernel,by decide +kernel⟩
theorem last_map {α : Type} (g : α -> V) (l : List α) (x : α) : ((l ++ [x]).map g)[((l ++ [x]).map g).length - 1]? = some (g x) /\ ((l ++ [x]).map g).dropLast = l.map g:=by
 rw [List.map_append]
 refine ⟨?_,by simp⟩
 rw [List.length_append,List.length_map]
 simp
set_option maxHeartbeats 4000000 in
theorem ok_ended (F : Fun K "_law_ended" "_law_ended" s_l_ended f fd) (T : Nm mg) : FnOk P w K mg base CX0 1 f fd ["_law_numbers","_law_inner"] spEnded:=by
 refine F.ok scEnded (fun vs H Q E h=>?_) (fun cdv A outer s H vs Q E hr h=>?_)
 ·obtain ⟨H0,np,ip,nums,n,tss,ts1,ts2,ls,rfl,_⟩:=h
  rfl
 obtain ⟨H0,np,ip,nums,n,tss,ts1,ts2,ls,rfl,S,b1,b2,q⟩:=h
 refine ⟨_,pss_cons (ps_set (i:=2) scEnded.nd rfl (Or.inl rfl) (pe_tup (pa_cons pe_str (pa_cons (pe_bm0 PySem.F.plainAttrs_list PySem.F.slot_list_pop PySem.F.type_list_pop mt_pop (pv 0)) (pa_cons (pe_callTy call_tuple_of rfl T.tuple PyProof.Rows.boot_tuple (pa_cons (pe_bm0 PySem.F.plainAttrs_list PySem.F.slot_list_pop PySem.F.type_list_pop mt_pop (pv 1)) pa_nil)) pa_nil)))))
  (pss_one (ps_expr (pe_bm PySem.F.plainAttrs_list PySem.F.slot_list_append PySem.F.type_list_append mt_append (pe_ix ix_list (pv 1) (pe_un un_neg pe_int) (fun _ _=>rfl)) (pa_cons (pv 2) pa_nil)))),?_⟩
 have hb:=big
 obtain ⟨l0,l12,e0,p0,p12⟩:=paired_split S.lv
 cases p12 with
 | cons k1 p2 =>
  rename_i a1 m1
  cases p2 with
  | cons k2 p3 =>
   rename_i a2 m2
   cases p3
   obtain ⟨xs1,h1,t1⟩:=k1
   obtain ⟨xs2,h2,t2⟩:=k2
   subst e0
   have m1 : a1 ∈ l0 ++ [a1,a2]:=List.mem_append_right _ List.mem_cons_self
   have m2 : a2 ∈ l0 ++ [a1,a2]:=List.mem_append_right _ (List.mem_cons_of_mem _ List.mem_cons_self)
   have n1p : a1 ≠ np:=fun e=>S.nn (e ▸ m1)
   have n1i : a1 ≠ ip:=fun e=>S.ii (e ▸ m1)
   have n2p : a2 ≠ np:=fun e=>S.nn (e ▸ m2)
   have n2i : a2 ≠ ip:=fun e=>S.ii (e ▸ m2)
   have nd:=S.nd
   rw [List.nodup_append] at nd
   obtain ⟨nd0,nd1,ndx⟩:=nd
   have n01 : a1 ∉ l0:=fun z=>ndx a1 z a1 List.mem_cons_self rfl
   have eN:=last_map V.int nums n
   refine ⟨_,rfl,.inl ⟨rfl,_,SqL.of S.hn⟩,np,_,_,rfl,rfl,S.hn,eN.1,?_⟩
   rw [eN.2]
   have gA : TSame H (upd H np (.lst (nums.map V.int))):=TSame.lst S.hn
   have i1 : upd H np (.lst (nums.map V.int)) ip = some (.lst ((l0 ++ [a1,a2]).map V.ref)):=by rw [upd_ne S.ni.symm]; exact S.hi
   have o1 : ∀ b o,b ≠ np -> H b = some o -> upd H np (.lst (nums.map V.int)) b = some o:=fun b o hb e=>by rw [upd_ne hb]; exact e
   have v1 : upd H np (.lst (nums.map V.int)) np = some (.lst (nums.map V.int)):=upd_same
   have f1 : Same H0 (upd H np (.lst (nums.map V.int))):=keep_upd S.fn S.same _
   generalize upd H np (.lst (nums.map V.int)) = H1 at gA i1 o1 v1 f1 ⊢
   have eI:=last_map V.ref (l0 ++ [a1]) a2
   rw [show (l0 ++ [a1]) ++ [a2] = l0 ++ [a1,a2] by simp] at eI
   refine ⟨_,rfl,.inl ⟨rfl,_,SqL.of i1⟩,ip,_,_,rfl,rfl,i1,eI.1,?_⟩
   rw [eI.2]
   have gB : TSame H1 (upd H1 ip (.lst ((l0 ++ [a1]).map V.ref))):=TSame.lst i1
   have o2 : ∀ b o,b ≠ ip -> H1 b = some o -> upd H1 ip (.lst ((l0 ++ [a1]).map V.ref)) b = some o:=fun b o hb e=>by rw [upd_ne hb]; exact e
   have v2 : upd H1 ip (.lst ((l0 ++ [a1]).map V.ref)) ip = some (.lst ((l0 ++ [a1]).map V.ref)):=upd_same
   have f2 : Same H0 (upd H1 ip (.lst ((l0 ++ [a1]).map V.ref))):=keep_upd S.fi f1 _
   generalize upd H1 ip (.lst ((l0 ++ [a1]).map V.ref)) = H2 at gB o2 v2 f2 ⊢
   have h2' : H2 a2 = some (.lst xs2):=o2 _ _ n2i (o1 _ _ n2p h2)
   have h1' : H2 a1 = some (.lst xs1):=o2 _ _ n1i (o1 _ _ n1p h1)
   refine ⟨a2,_,rfl,.inl ⟨SqL.of h2',fun t ht=>?_⟩⟩
   have gC:=same_new ht (.tup xs2)
   have e3 : upd H2 t (.tup xs2) t = some (.tup xs2):=upd_same
   generalize upd H2 t (.tup xs2) = H3 at gC e3 ⊢
   refine ⟨(by show 3 <= sizeLine; decide),fun p hp=>?_⟩
   have gD:=same_new hp (.tup [.str "part",.int n,.ref t])
   have e4 : upd H3 p (.tup [.str "part",.int n,.ref t]) p = some (.tup [.str "part",.int n,.ref t]):=upd_same
   generalize upd H3 p (.tup [.str "part",.int n,.ref t]) = H4 at gD e4 ⊢
   have g4 : TSame H H4:=((gA.trans gB).trans gC.t).trans gD.t
   have h1'':=gD _ _ (gC _ _ h1')
   have v2':=gD _ _ (gC _ _ v2)
   have v1':=gD _ _ (gC _ _ (o2 _ _ S.ni v1))
   have hat : atI ((l0 ++ [a1]).map V.ref) (-1) = some (.ref a1):=by rw [List.map_append]; exact atI_last _ _
   have hl1 : xs1.length <= 1000:=by rw [<- paired_len t1]; exact b1
   refine ⟨_,rfl,1,rfl,ip,_,_,_,rfl,rfl,SqL.of v2',hat,.inl ⟨rfl,_,SqL.of h1''⟩,_,rfl,a1,_,_,rfl,rfl,h1'',by omega,?_⟩
   have gE : TSame H4 (upd H4 a1 (.lst (xs1 ++ [.ref p]))):=TSame.lst h1''
   have g5:=g4.trans gE
   have hp4 : thR H4 (.part n (L2.F.of ts2)) (.ref p):=⟨p,t,xs2,rfl,e4,gD _ _ e3,fR_iff.mpr (by rw [ths_of]; exact t2.mono g4)⟩
   refine q _ (l0 ++ [a1]) ⟨?_,?_,?_,?_,?_,S.ni,?_,?_,S.fn,S.fi,?_⟩
   ·exact keep_upd (S.fl a1 m1) ((f2.trans gC).trans gD) _
   ·rw [upd_ne n1p.symm]
    exact v1'
   ·rw [upd_ne n1i.symm]
    exact v2'
   ·refine paired_app (lvls_keep g5 p0 fun l hl o e=>?_) (.cons ⟨_,upd_same,paired_app (t1.mono g5) (.cons (hp4.mono gE) .nil)⟩ .nil)
    have hm : l ∈ l0 ++ [a1,a2]:=List.mem_append_left _ hl
    rw [upd_ne (fun (z : l = a1)=>n01 (z ▸ hl))]
    exact gD _ _ (gC _ _ (o2 _ _ (fun z=>S.ii (z ▸ hm)) (o1 _ _ (fun z=>S.nn (z ▸ hm)) e)))
   ·rw [List.nodup_append]
    refine ⟨nd0,by simp,fun x hx y hy z=>?_⟩
    rw [List.mem_singleton.mp hy] at z
    exact n01 (z ▸ hx)
   ·exact fun z=>S.nn (by
     rcases List.mem_append.mp z with z | z
     ·exact List.mem_append_left _ z
     ·rw [List.mem_singleton.mp z]; exact m1)
   ·exact fun z=>S.ii (by
     rcases List.mem_append.mp z with z | z
     ·exact List.mem_append_left _ z
     ·rw [List.mem_singleton.mp z]; exact m1)
   ·intro l hl
    rcases List.mem_append.mp hl with z | z
    ·exact S.fl l (List.mem_append_left _ z)
    ·rw [List.mem_singleton.mp z]; exact S.fl a1 m1
end
end D
namespace D
open PySem L2
theorem inV_str (z : Str) (zs : List Str) : inV (.str z) (zs.map V.str) = decide (z ∈ zs):=by
 unfold inV
 induction zs with
 | nil=>simp
 | cons y r ih =>
  rw [List.map_cons,List.any_cons,ih]
  have e : eqV (.str y) (.str z) = decide (y = z):=by
   first
    | rfl
    | (unfold eqV; simp)
  rw [e,<- Bool.decide_or]
  exact decide_eq_decide.mpr ⟨fun h=>h.elim (fun e=>by rw [e]; exact List.mem_cons_self) fun h=>List.mem_cons_of_mem _ h,fun h=>(List.mem_cons.mp h).imp (fun e=>e.symm) id⟩
theorem flat_strs (zs : List Str) : (zs.map V.str).all flatV = true:=by
 rw [List.all_eq_true]
 intro x hx
 obtain ⟨y,_,rfl⟩:=List.mem_map.mp hx
 rfl
def spBends : Sp:=fun vs H Q _=>∃ (last : Str) (c k : Int),vs = [.str last,.int c,.int k] /\ Wd last /\ 0 <= k /\ k <= 5 /\ ∀ (bs : List (Str × Str)) v H',Same H H' -> bR H' bs v -> BOk last bs -> Q v H'
theorem bR_mono {H H' : Hp} {bs : List (Str × Str)} {v : V} (h : bR H bs v) (g : Same H H') : bR H' bs v:=by
 obtain ⟨a,xs,e,q,p⟩:=h
 exact ⟨a,xs,e,g _ _ q,Paired.mapP p fun _ _ ⟨c,e,z⟩=>⟨c,e,g _ _ z⟩⟩
theorem two_good {d1 d2 : Nat} (h1 : good d1 = true) (h2 : good d2 = true) : allGood ((⟨#[d1]⟩ : Str) ++ ⟨#[d2]⟩) /\ ((⟨#[d1]⟩ : Str) ++ ⟨#[d2]⟩).length = 2:=by
 refine ⟨?_,by rw [len_app] <;> rfl⟩
 unfold allGood
 rw [cs_app,List.all_append]
 show ([d1].all good && [d2].all good) = true
 simp [h1,h2]
structure BIn (H H' : Hp) (last : Str) (b kn : Addr) (bs : List (Str × Str)) (i : Nat) : Prop where
 same : Same H H'
 hb : bR H' bs (.ref b)
 hk : H' kn = some (.lst ((last :: bs.map (formW last)).map V.str))
 fk : H kn = none
 len : bs.length <= i
 fit : ∀ b ∈ bs,b.1.length <= last.length /\ (cs last).drop (last.length - b.1.length) = cs b.1 /\ b.2.length <= 20 /\ allGood b.1 /\ allGood b.2 /\ 1 <= (formW last b).length /\ (formW last b).length <= 20
 nd : (last :: bs.map (formW last)).Nodup
section
variable {P : Program} {w : World} {K : PySem.W.Frag} {mg : Str -> Option Value} {base : Heap} {f : Addr} {fd : FuncData}
abbrev NB : List Str:=["_law_last","_law_cell_here","_law_many_here","_law_some","_law_bends_here","_law_known","_law_k","_law_left","_law_pair","_law_put","_law_form"]
theorem scBends : FnScope NB ["_law_last","_law_cell_here","_law_many_here"] (defScope s_l_bends):=⟨rfl,rfl,rfl,by decide +kernel,rfl,by decide +kernel,by decide +kernel⟩
set_option maxHeartbeats 8000000 in
theorem ok_bends (F : Fun K "_law_bends" "_law_bends" s_l_bends f fd) (T : Nm mg) (GM : Def P w K mg base CX0 1 "_law_mixed" ["_law_number_here"] spMixed) : FnOk P w K mg base CX0 2 f fd ["_law_last","_law_cell_here","_law_many_here"] spBends:=by
 refine F.ok scBends (fun vs H Q E h=>?_) (fun cdv A outer s H vs Q E hr h=>?_)
 ·obtain ⟨last,c,k,rfl,_⟩:=h
  rfl
 obtain ⟨last,c,k,rfl,hlw,k0,k5,q⟩:=h
 refine ⟨_,pss_cons (ps_set (i:=3) scBends.nd rfl (Or.inl rfl) pe_str)
  (pss_cons (ps_set (i:=4) scBends.nd rfl (Or.inl rfl) (pe_tup pa_nil))
  (pss_cons (ps_set (i:=5) scBends.nd rfl (Or.inl rfl) (pe_lst (pa_cons (pv 0) pa_nil)))
  (pss_cons (ps_for PassesOwn.never rfl (pi_range1 rfl T.range (pa_cons (pv 2) pa_nil)) (pg_name (i:=6) scBends.nd rfl (Or.inl rfl))
   (pss_cons (ps_set (i:=1) scBends.nd rfl (Or.inl rfl) (pe_def GM hr (pa_cons (pv 1) pa_nil)))
   (pss_cons (ps_set (i:=7) scBends.nd rfl (Or.inl rfl) (pe_op op_sub (pe_callB call_len_str rfl T.len PySem.boot_len (pa_cons (pv 0) pa_nil)) (pe_callB (call_min2 rfl) rfl T.mn PyProof.Rows.boot_min (pa_cons (pe_callB call_len_str rfl T.len PySem.boot_len (pa_cons (pv 0) pa_nil)) (pa_cons (pe_ix ix_list (pe_lst (pa_cons pe_int (pa_cons pe_int (pa_cons pe_int (pa_cons pe_int pa_nil))))) (pe_op op_mod (pv 1) pe_int) (fun _ _=>rfl)) pa_nil)))))
   (pss_cons (ps_set (i:=8) scBends.nd rfl (Or.inl rfl) (pe_op op_add_str (pe_ix ix_str (pv 3) (pe_op op_mod (pe_op op_fdiv (pv 1) pe_int) pe_int) (fun _ _=>rfl)) (pe_ix ix_str (pv 3) (pe_op op_mod (pe_op op_fdiv (pv 1) pe_int) pe_int) (fun _ _=>rfl))))
   (pss_cons (ps_set (i:=9) scBends.nd rfl (Or.inl rfl) (pe_slice sl_str (pv 8) po_none (po_some (pe_op op_mod (pe_op op_fdiv (pv 1) pe_int) pe_int))))
   (pss_cons (ps_if (pt_cmpR op_eq (pe_op op_mod (pe_op op_fdiv (pv 1) pe_int) pe_int) pe_int (nomark _)) (pss_one (ps_set (i:=9) scBends.nd rfl (Or.inl rfl) (pe_slice sl_str (pe_op op_add_str (pv 8) (pe_op op_rep3 (pv 0) pe_int)) po_none (po_some (pe_op op_sub pe_int (pv 7)))))) pss_nil)
   (pss_cons (ps_set (i:=10) scBends.nd rfl (Or.inl rfl) (pe_op op_add_str (pe_slice sl_str (pv 0) po_none (po_some (pv 7))) (pv 9)))
   (pss_one (ps_if (PW.pt (pw_and (pt_cmpR op_notIn_seq (pv 10) (pv 5) (by with_unfolding_all rfl)) (pw_and1 (pt_chain op_le op_le pe_int (pe_callB call_len_str rfl T.len PySem.boot_len (pa_cons (pv 10) pa_nil)) pe_int))))
    (pss_cons (ps_expr (pe_bm PySem.F.plainAttrs_list PySem.F.slot_list_append PySem.F.type_list_append mt_append (pv 5) (pa_cons (pv 10) pa_nil)))
    (pss_one (ps_set (i:=4) scBends.nd rfl (Or.inl rfl) (pe_op op_catX (pv 4) (pe_tup (pa_cons (pe_tup (pa_cons (pe_slice sl_str (pv 0) (po_some (pv 7)) po_none) (pa_cons (pv 9) pa_nil))) pa_nil)))))) pss_nil)))))))))
  (pss_one (ps_ret (pv 4)))))),?_⟩
 have hbg:=big
 obtain ⟨L1,L20,Lg⟩:=hlw
 refine ⟨(by show 0 <= sizeLine; decide),fun b0 hb0=>?_⟩
 have g0:=same_new hb0 (.tup [])
 have e0 : upd H b0 (.tup []) b0 = some (.tup []):=upd_same
 generalize upd H b0 (.tup []) = H0 at g0 e0 ⊢
 refine ⟨_,rfl,(by show 1 <= sizeLine; decide),fun kn hkn=>?_⟩
 have g1:=same_new hkn (.lst [.str last])
 refine ⟨_,rfl,k,rfl,by omega,by omega,?_⟩
 refine for_range (lo:=0) (n:=k.toNat) (fun i σ' H'=>∃ (x : Int) (b : Addr) (bs : List (Str × Str)) (u6 u7 u8 u9 u10 : Option V),σ' = [some (.str last),some (.int x),some (.int k),some (.str W62),some (.ref b),some (.ref kn),u6,u7,u8,u9,u10] /\ BIn H H' last b kn bs i) ?_ ?_ ?_
 ·exact ⟨c,b0,[],none,none,none,none,none,rfl,⟨g0.trans g1,⟨b0,[],rfl,g1 _ _ e0,.nil⟩,upd_same,g0.free hkn,Nat.le_refl _,(fun _ h=>nomatch h),by simp⟩⟩
 ·rintro i σ' H' hi ⟨x,b,bs,u6,u7,u8,u9,u10,rfl,B⟩
  refine ⟨_,rfl,x,rfl,?_⟩
  generalize mixedZ x = y
  have y0 : 0 <= y % 4:=Int.emod_nonneg _ (by decide)
  have y1 : y % 4 < 4:=Int.emod_lt_of_pos _ (by decide)
  obtain ⟨a,ha,ea⟩:=at_int (is:=[0,1,2,20]) (k:=y % 4) y0 y1
  have a0 : 0 <= a:=by
   simp only [List.mem_cons,List.not_mem_nil,or_false] at ha
   omega
  refine ⟨_,rfl,last,rfl,by omega,_,rfl,last,rfl,by omega,(by show 4 <= sizeLine; decide),fun p1 hp1=>?_⟩
  have k1:=same_new hp1 (.lst [.int 0,.int 1,.int 2,.int 20])
  refine ⟨_,rfl,_,_,rfl,rfl,(by show (0 : Int) < _; decide),p1,_,_,_,rfl,rfl,SqL.of upd_same,ea,_,_,rfl,_,_,rfl,rfl,?_⟩
  have B1 : BIn H (upd H' p1 (.lst [.int 0,.int 1,.int 2,.int 20])) last b kn bs i:=⟨B.same.trans k1,bR_mono B.hb k1,k1 _ _ B.hk,B.fk,B.len,B.fit,B.nd⟩
  generalize upd H' p1 (.lst [.int 0,.int 1,.int 2,.int 20]) = H1 at B1 ⊢
  clear B k1 hp1 ea ha
  have lf0 : 0 <= (last.length : Int) - (if a < (last.length : Int) then a else (last.length : Int)):=by split <;> omega
  have lf1 : (last.length : Int) - (if a < (last.length : Int) then a else (last.length : Int)) <= (last.length : Int):=by split <;> omega
  dsimp only
  generalize (last.length : Int) - (if a < (last.length : Int) then a else (last.length : Int)) = lf at lf0 lf1 ⊢
  obtain ⟨d1,hd1,gd1⟩:=w62_at (i:=y / 4 % 62) (Int.emod_nonneg _ (by decide)) (Int.emod_lt_of_pos _ (by decide))
  obtain ⟨d2,hd2,gd2⟩:=w62_at (i:=y / 248 % 62) (Int.emod_nonneg _ (by decide)) (Int.emod_lt_of_pos _ (by decide))
  obtain ⟨pg,pl⟩:=two_good gd1 gd2
  have hz62 : W62.length <= sizeLine:=by decide +kernel
  refine ⟨_,rfl,_,rfl,_,_,rfl,rfl,⟨by decide,by decide⟩,_,_,rfl,rfl,(by show (0 : Int) < _; decide),W62,_,_,rfl,rfl,hz62,hd1,_,rfl,_,rfl,_,_,rfl,rfl,⟨by decide,by decide⟩,_,_,rfl,rfl,(by show (0 : Int) < _; decide),W62,_,_,rfl,rfl,hz62,hd2,_,_,rfl,rfl,(by show 1 + 1 <= sizeLine; decide),?_⟩
  generalize (⟨#[d1]⟩ : Str) ++ ⟨#[d2]⟩ = pr at pg pl
  have z0 : 0 <= y / 15376 % 3:=Int.emod_nonneg _ (by decide)
  have z1 : y / 15376 % 3 < 3:=Int.emod_lt_of_pos _ (by decide)
  refine ⟨_,rfl,_,rfl,_,_,rfl,rfl,⟨by decide,by decide⟩,_,_,rfl,rfl,(by show (0 : Int) < _; decide),_,rfl,pr,rfl,by omega,?_⟩
  have RST : ∀ (put : Str),put.length <= 20 -> allGood put -> ∀ (R : Ends) (t : TS),R.nx = (fun σ' H'=>∃ (x : Int) (b : Addr) (bs : List (Str × Str)) (u6 u7 u8 u9 u10 : Option V),σ' = [some (.str last),some (.int x),some (.int k),some (.str W62),some (.ref b),some (.ref kn),u6,u7,u8,u9,u10] /\ BIn H H' last b kn bs (i + 1)) ->
    t = tSeq (tAsg (tOp (fun x y H Q=>∃ i j,x = .str i /\ y = .str j /\ i.length + j.length <= sizeLine /\ Q (.str (i ++ j)) H) (tSl rSlS (tVar 0) tNoPart (tPart (tVar 7))) (tVar 9)) (gName 10))
     (tIfS (tAnd (tTest (tOp (rIn K true) (tVar 10) (tVar 5))) (tTest (tChain (rI0 fun i j=>.bl (decide (i <= j))) (rI0 fun i j=>.bl (decide (i <= j))) (tC (.int 1)) (tCB (fun xs H Q=>∃ z,xs = [.str z] /\ z.length <= sizeLine /\ Q (.int z.length) H) (tCons (tVar 10) tNil)) (tC (.int 20)))))
      (tSeq (tDrop (tBM K "list" rAppend (tVar 5) (tCons (tVar 10) tNil))) (tAsg (tOp rCatX (tVar 4) (tTup (tCons (tTup (tCons (tSl rSlS (tVar 0) (tPart (tVar 7)) tNoPart) (tCons (tVar 9) tNil))) tNil))) (gName 4))) tNext) ->
    t R [some (.str last),some (.int y),some (.int k),some (.str W62),some (.ref b),some (.ref kn),some (.int (0 + (i : Int))),some (.int lf),some (.str pr),some (.str put),u10] H1:=by
   rintro put p20 pgood R t hR rfl
   have lfn : lf.toNat <= last.length:=by omega
   have hz : last.length <= sizeLine:=by omega
   have c1 : (cutC last none (some lf)).length = lf.toNat:=by rw [cut_to last lf0,List.length_take,cs_len]; omega
   have hfm : (⟨(cutC last none (some lf)).toArray⟩ : Str) ++ put = formW last (⟨(cutC last (some lf) none).toArray⟩,put):=by
    have e1 : cs ((⟨(cutC last none (some lf)).toArray⟩ : Str) ++ put) = (cs last).take lf.toNat ++ cs put:=by rw [cs_app,cs_mk,cut_to last lf0]
    have e2 : cs (formW last (⟨(cutC last (some lf) none).toArray⟩,put)) = (cs last).take lf.toNat ++ cs put:=by
     have cl : (⟨(cutC last (some lf) none).toArray⟩ : Str).length = last.length - lf.toNat:=by rw [len_mk,cut_from last lf0,List.length_drop,cs_len]
     unfold formW
     rw [cs_mk,cl]
     have : last.length - (last.length - lf.toNat) = lf.toNat:=by omega
     rw [this]
    exact str_ext (e1.trans e2.symm)
   refine ⟨_,rfl,_,rfl,lf,rfl,last,rfl,hz,_,rfl,_,_,rfl,rfl,(by rw [len_mk,c1]; omega),?_⟩
   rw [hfm]
   have cutl : (⟨(cutC last (some lf) none).toArray⟩ : Str).length = last.length - lf.toNat:=by rw [len_mk,cut_from last lf0,List.length_drop,cs_len]
   have cutg : allGood (⟨(cutC last (some lf) none).toArray⟩ : Str):=.mk (by rw [cut_from last lf0]; exact all_drop Lg)
   have cuts : cs (⟨(cutC last (some lf) none).toArray⟩ : Str) = (cs last).drop lf.toNat:=by rw [cs_mk,cut_from last lf0]
   have fl : (formW last (⟨(cutC last (some lf) none).toArray⟩,put)).length <= 40:=by rw [<- hfm,len_app,len_mk,c1]; omega
   generalize hct : (⟨(cutC last (some lf) none).toArray⟩ : Str) = ct at cutl cutg cuts fl hfm ⊢
   refine ⟨_,rfl,_,rfl,kn,_,rfl,.inl (SqL.of B1.hk),rfl,flat_strs _,_,rfl,?_⟩
   have skip : R.nx [some (.str last),some (.int y),some (.int k),some (.str W62),some (.ref b),some (.ref kn),some (.int (0 + (i : Int))),some (.int lf),some (.str pr),some (.str put),some (.str (formW last (ct,put)))] H1:=by
    rw [hR]
    exact ⟨y,b,bs,_,_,_,_,_,rfl,⟨B1.same,B1.hb,B1.hk,B1.fk,by have:=B1.len; omega,B1.fit,B1.nd⟩⟩
   refine ite2 (fun d=>?_) (fun d=>?_)
   ·have dn : formW last (ct,put) ∉ last :: bs.map (formW last):=by
     have d' : (!inV (.str (formW last (ct,put))) ((last :: bs.map (formW last)).map V.str)) = true:=d
     rw [inV_str] at d'
     simpa using d'
    refine ⟨_,rfl,_,rfl,by omega,_,_,rfl,rfl,_,rfl,?_⟩
    refine ite2 (fun d2=>?_) (fun d2=>?_)
    ·have d2' : (1 : Int) <= ((formW last (ct,put)).length : Int):=of_decide_eq_true d2
     refine ⟨_,_,rfl,rfl,_,rfl,?_⟩
     refine ite2 (fun d3=>?_) (fun d3=>?_)
     ·have d3' : ((formW last (ct,put)).length : Int) <= 20:=of_decide_eq_true d3
      have hbl:=B1.len
      refine ⟨_,rfl,.inl ⟨rfl,_,SqL.of B1.hk⟩,_,rfl,kn,_,_,rfl,rfl,B1.hk,by rw [List.length_map,List.length_cons,List.length_map]; omega,?_⟩
      have kb : Same H (upd H1 kn (.lst ((last :: bs.map (formW last)).map V.str ++ [.str (formW last (ct,put))]))):=keep_upd B1.fk B1.same _
      have hk2 : upd H1 kn (.lst ((last :: bs.map (formW last)).map V.str ++ [.str (formW last (ct,put))])) kn = some (.lst ((last :: bs.map (formW last)).map V.str ++ [.str (formW last (ct,put))])):=upd_same
      have tb : TSame H1 (upd H1 kn (.lst ((last :: bs.map (formW last)).map V.str ++ [.str (formW last (ct,put))]))):=TSame.lst B1.hk
      obtain ⟨ba,bxs,eb,hba,hbp⟩:=B1.hb
      cases eb
      have hba2:=tb _ _ hba
      have hbp2 : Paired (cpR (upd H1 kn (.lst ((last :: bs.map (formW last)).map V.str ++ [.str (formW last (ct,put))])))) bs bxs:=Paired.mapP hbp fun _ _ ⟨c,e,z⟩=>⟨c,e,tb _ _ z⟩
      generalize upd H1 kn (.lst ((last :: bs.map (formW last)).map V.str ++ [.str (formW last (ct,put))])) = H2 at kb hk2 tb hba2 hbp2 ⊢
      refine ⟨_,rfl,_,rfl,_,rfl,lf,rfl,last,rfl,hz,_,rfl,(by show 2 <= sizeLine; decide),fun p2 hp2=>⟨(by show 1 <= sizeLine; decide),fun p3 hp3=>?_⟩⟩
      rw [hct] at hp3 ⊢
      have k2:=same_new hp2 (.tup [.str ct,.str put])
      have k3:=same_new hp3 (.tup [.ref p2])
      have kk:=k2.trans k3
      refine ⟨b,p3,_,_,rfl,rfl,kk _ _ hba2,upd_same,by rw [<- paired_len hbp2]; show bs.length + 1 <= _; omega,fun p4 H5 k5 h5=>?_⟩
      have kz:=kk.trans k5
      show R.nx _ _
      rw [hR]
      refine ⟨y,p4,bs ++ [(ct,put)],_,_,_,_,_,rfl,⟨kb.trans kz,⟨p4,_,rfl,h5,paired_app (Paired.mapP hbp2 fun _ _ ⟨c,e,z⟩=>⟨c,e,kz _ _ z⟩) (.cons ⟨p2,rfl,k5 _ _ (k3 _ _ upd_same)⟩ .nil)⟩,?_,B1.fk,by rw [List.length_append]; show _ + 1 <= _; omega,fun z hz=>?_,?_⟩⟩
      ·rw [kz _ _ hk2,List.map_append] <;> simp
      ·rcases List.mem_append.mp hz with z' | z'
       ·exact B1.fit z z'
       ·rw [List.mem_singleton.mp z']
        refine ⟨by show ct.length <= _; omega,?_,p20,cutg,pgood,by omega,by omega⟩
        show (cs last).drop (last.length - ct.length) = cs ct
        rw [cutl,cuts]
        congr 1
        omega
      ·rw [List.map_append,<- List.cons_append,List.nodup_append]
       refine ⟨B1.nd,by simp,fun z hz z2 hz2 e=>?_⟩
       have hz2 : z2 = formW last (ct,put):=by simpa using hz2
       exact dn (by rw [<- hz2,<- e]; exact hz)
     ·exact skip
    ·refine ⟨_,rfl,?_⟩
     exact iteF skip
   ·exact iteF skip
  have z2 : (cutC pr none (some (y / 15376 % 3))).length <= 2:=by rw [cut_to pr z0,List.length_take]; omega
  have z3 : (cutC pr none (some (y / 15376 % 3))).all good = true:=by rw [cut_to pr z0]; exact all_take pg
  refine ⟨_,rfl,_,_,rfl,rfl,⟨by decide,by decide⟩,_,_,rfl,rfl,(by show (0 : Int) < _; decide),rfl,_,rfl,?_⟩
  refine ite2 (fun _=>?_) (fun _=>?_)
  ·refine ⟨_,rfl,_,rfl,last,rfl,rfl,L1,by omega,_,_,rfl,rfl,?_,_,rfl,_,_,rfl,rfl,_,rfl,_,rfl,?_,?_⟩
   ·show pr.length + (last.cps ++ last.cps ++ last.cps).size <= sizeLine
    rw [Array.size_append,Array.size_append]
    have : last.cps.size <= 20:=L20
    omega
   ·rw [len_app]
    show pr.length + (last.cps ++ last.cps ++ last.cps).size <= sizeLine
    rw [Array.size_append,Array.size_append]
    have : last.cps.size <= 20:=L20
    omega
   ·show (tSeq _ _ : TS) _ _ _
    refine RST _ ?_ (.mk ?_) _ _ rfl rfl
    ·rw [len_mk,cut_to _ (by omega),List.length_take]
     omega
    ·rw [cut_to _ (by omega)]
     refine all_take ?_
     rw [cs_app,List.all_append]
     have e3 : cs (⟨last.cps ++ last.cps ++ last.cps⟩ : Str) = cs last ++ cs last ++ cs last:=by simp [cs]
     have Lg' : (cs last).all good = true:=Lg
     rw [e3,List.all_append,List.all_append,Lg',pg] <;> rfl
  ·show (tSeq _ _ : TS) _ _ _
   exact RST _ (by rw [len_mk]; omega) (.mk z3) _ _ rfl rfl
 ·rintro σ' H' ⟨x,b,bs,u6,u7,u8,u9,u10,rfl,B⟩
  have:=B.len
  exact ⟨_,rfl,q bs _ H' B.same B.hb ⟨by omega,B.fit,B.nd⟩⟩
end
end D
namespace D
open PySem L2
section
variable {P : Program} {w : World} {K : PySem.W.Frag} {mg : Str -> Option Value} {base : Heap} {f : Addr} {fd : FuncData}
abbrev NT : List Str:=["_law_cell_here","_law_number_here","_law_menu_here","_law_size","_law_scope","_law_first","_law_phrase","_law_bends_here"]
theorem scThing : FnScope NT ["_law_cell_here","_law_number_here","_law_menu_here","_law_size"] (defScope s_l_thing):=⟨rfl,rfl,rfl,by decide +kernel,rfl,by decide +kernel,by decide +kernel⟩
set_option maxHeartbeats 8000000 in
theorem ok_thing (F : Fun K "_law_thing" "_law_thing" s_l_thing f fd) (T : Nm mg) (GM : Def P w K mg base CX0 1 "_law_mixed" ["_law_number_here"] spMixed) (GR : Def P w K mg base CX0 2 "_law_row" ["_law_cell_here","_law_menu_here","_law_many_here"] (spRow K)) (GB : Def P w K mg base CX0 2 "_law_bends" ["_law_last","_law_cell_here","_law_many_here"] spBends) : FnOk P w K mg base CX0 3 f fd ["_law_cell_here","_law_number_here","_law_menu_here","_law_size"] (spThing K):=by
 refine F.ok scThing (fun vs H Q E h=>?_) (fun cdv A outer s H vs Q E hr h=>?_)
 ·obtain ⟨c,n,m,ws,k,rfl,_⟩:=h
  rfl
 obtain ⟨c,n,m,ws,k,rfl,hS,hw,hwd,k0,k1,q⟩:=h
 refine ⟨_,pss_cons (ps_if (pt_cmpR op_lt (pe_op op_mod (pv 0) pe_int) pe_int (nomark _)) (pss_one (ps_ret (pe_tup (pa_cons pe_str (pa_cons (pv 1) (pa_cons (pe_def GR hr (pa_cons (pe_op op_fdiv (pv 0) pe_int) (pa_cons (pv 2) (pa_cons (pv 3) pa_nil)))) pa_nil)))))) pss_nil)
  (pss_cons (ps_set (i:=4) scThing.nd rfl (Or.inl rfl) (pe_ix ix_list (pe_lst (pa_cons pe_str (pa_cons pe_str (pa_cons pe_str (pa_cons pe_str pa_nil))))) (pe_op op_mod (pe_op op_fdiv (pv 0) pe_int) pe_int) (fun _ _=>rfl)))
  (pss_cons (ps_set (i:=5) scThing.nd rfl (Or.inr rfl) (pe_def GM (hr.mono (by decide)) (pa_cons (pe_op op_fdiv (pv 0) pe_int) pa_nil)))
  (pss_cons (ps_set (i:=6) scThing.nd rfl (Or.inl rfl) (pe_callTy call_tuple_of rfl T.tuple PyProof.Rows.boot_tuple (pa_cons (pe_comp NT (defScope s_l_thing) rfl (by decide +kernel) (by decide +kernel) (pi_range1 rfl T.range (pa_cons (pe_op op_add pe_int (pe_op op_mod (pe_op op_fdiv (pv 5) pe_int) pe_int)) pa_nil)) (fun _ _ _ _ _=>pts_nil)
    (fun _ _ _ _ _=>pe_ix (r:=rIxL K) ix_list (pv 2) (pe_op op_mod (pe_op op_fdiv (pv 5) (pe_op op_add (pe_op op_mul pe_int (pv 8)) pe_int)) pe_int) (fun _ _=>rfl))) pa_nil)))
  (pss_cons (ps_set (i:=7) scThing.nd rfl (Or.inl rfl) (pe_def GB hr (pa_cons (pe_ix ix_tup (pv 6) (pe_un un_neg pe_int) (fun _ _=>rfl)) (pa_cons (pv 5) (pa_cons (pe_op op_mod (pv 5) pe_int) pa_nil)))))
  (pss_one (ps_ret (pe_tup (pa_cons pe_str (pa_cons (pv 1) (pa_cons (pv 4) (pa_cons (pv 6) (pa_cons (pv 7) (pa_cons (pe_def GR hr (pa_cons (pv 5) (pa_cons (pv 2) (pa_cons (pv 3) pa_nil)))) pa_nil))))))))))))),?_⟩
 have hb:=big
 refine ⟨_,rfl,_,_,rfl,rfl,(by show (0 : Int) < _; decide),_,_,rfl,rfl,_,rfl,?_⟩
 refine ite2 (fun d=>?_) (fun d=>?_)
 ·refine ⟨_,rfl,_,rfl,_,_,rfl,rfl,⟨by decide,by decide⟩,_,rfl,_,rfl,_,m,ws,k,rfl,hS,hw,by omega,by omega,fun zs r H1 g1 h1 lz mz=>?_⟩
  refine ⟨(by show 3 <= sizeLine; decide),fun p hp=>?_⟩
  have g2:=same_new hp (.tup [.str "say",.int n,.ref r])
  refine q (.say n zs) _ _ (g1.trans g2) ⟨p,.ref r,rfl,upd_same,r,rfl,g2 _ _ h1⟩ (.inl ⟨zs,rfl,by omega,by omega,fun x hx=>hwd x (mz x hx)⟩)
 ·refine ⟨(by show 4 <= sizeLine; decide),fun p1 hp1=>?_⟩
  have g1:=same_new hp1 (.lst [.str "all",.str "part",.str "here",.str "else"])
  obtain ⟨sc,hsc0,hsc⟩:=at_str (ws:=["all","part","here","else"]) (k:=c / 9 % 4) (Int.emod_nonneg _ (by decide)) (Int.emod_lt_of_pos _ (by decide))
  refine ⟨_,rfl,_,_,rfl,rfl,⟨by decide,by decide⟩,_,_,rfl,rfl,(by show (0 : Int) < _; decide),p1,_,_,_,rfl,rfl,SqL.of upd_same,hsc,?_⟩
  generalize upd H p1 (.lst [.str "all",.str "part",.str "here",.str "else"]) = H1 at g1 ⊢
  refine ⟨_,rfl,_,_,rfl,rfl,⟨by decide,by decide⟩,_,rfl,?_⟩
  generalize mixedZ (c / 36) = x
  have x0 : 0 <= x / 6 % 4:=Int.emod_nonneg _ (by decide)
  have x1 : x / 6 % 4 < 4:=Int.emod_lt_of_pos _ (by decide)
  refine ⟨_,rfl,_,_,rfl,rfl,⟨by decide,by decide⟩,_,_,rfl,rfl,(by show (0 : Int) < _; decide),_,_,rfl,rfl,1 + x / 6 % 4,rfl,by omega,by omega,?_⟩
  refine comp_range (lo:=0) (n:=(1 + x / 6 % 4).toNat) (fun i ys H'=>H' = H1 /\ ∃ zs : List Str,ys = zs.map V.str /\ zs.length = i /\ ∀ z ∈ zs,z ∈ ws) (by omega) ⟨rfl,[],rfl,rfl,fun _ h=>nomatch h⟩ (fun i ys H' _ h=>by obtain ⟨_,zs,rfl,hl,_⟩:=h; rw [List.length_map]; omega) ?_ ?_
  ·rintro i ys H' hi ⟨rfl,zs,rfl,hl,hz⟩ KY hK
   obtain ⟨y,hy,ey⟩:=at_str (ws:=ws) (k:=x / (7 * (0 + (i : Int)) + 1) % 10) (Int.emod_nonneg _ (by decide)) (by rw [hw]; exact Int.emod_lt_of_pos _ (by decide))
   refine ⟨_,rfl,_,rfl,_,rfl,_,_,rfl,rfl,.inl ⟨by decide,by decide⟩,_,_,rfl,rfl,_,_,rfl,rfl,⟨by omega,by omega⟩,_,_,rfl,rfl,(by show (0 : Int) < _; decide),m,_,_,_,rfl,rfl,g1.seq hS,ey,?_⟩
   refine hK _ _ ⟨rfl,zs ++ [y],by rw [List.map_append] <;> rfl,by rw [List.length_append,hl] <;> rfl,fun z hzm=>?_⟩
   rcases List.mem_append.mp hzm with j | j
   ·exact hz z j
   ·rw [List.mem_singleton.mp j]; exact hy
  rintro ys H' ⟨rfl,zs,rfl,hl,hz⟩ p2 hp2
  have g2:=same_new hp2 (.lst (zs.map V.str))
  refine ⟨p2,_,rfl,.inl ⟨SqL.of upd_same,fun p3 hp3=>?_⟩⟩
  have g3:=same_new hp3 (.tup (zs.map V.str))
  have e3 : upd (upd H' p2 (.lst (zs.map V.str))) p3 (.tup (zs.map V.str)) p3 = some (.tup (zs.map V.str)):=upd_same
  have gA:=(g1.trans g2).trans g3
  generalize upd (upd H' p2 (.lst (zs.map V.str))) p3 (.tup (zs.map V.str)) = H3 at e3 gA ⊢
  obtain ⟨wl,last,hz2⟩ : ∃ wl last,zs = wl ++ [last]:=by
   rcases List.eq_nil_or_concat zs with z | ⟨l',y,z⟩
   ·rw [z] at hl
    have hl : 0 = (1 + x / 6 % 4).toNat:=hl
    omega
   ·exact ⟨l',y,by rw [z,List.concat_eq_append]⟩
  have lastm : last ∈ zs:=by rw [hz2]; exact List.mem_append_right _ List.mem_cons_self
  have hat : atI (zs.map V.str) (-1) = some (.str last):=by rw [hz2,List.map_append]; exact atI_last _ _
  have f0 : 0 <= x % 6:=Int.emod_nonneg _ (by decide)
  have f1 : x % 6 < 6:=Int.emod_lt_of_pos _ (by decide)
  refine ⟨_,rfl,1,rfl,p3,_,_,_,rfl,rfl,SqT.of e3,hat,_,rfl,_,rfl,_,_,rfl,rfl,(by show (0 : Int) < _; decide),last,x,_,rfl,hwd last (hz last lastm),by omega,by omega,fun bs bv H4 g4 hbv hbok=>?_⟩
  refine ⟨_,rfl,_,rfl,_,rfl,_,rfl,_,rfl,_,rfl,_,rfl,x,m,ws,k,rfl,(gA.trans g4).seq hS,hw,by omega,by omega,fun ms r H5 g5 h5 lz mz=>⟨(by show 6 <= sizeLine; decide),fun p9 hp9=>?_⟩⟩
  have g9:=same_new hp9 (.tup [.str "tell",.int n,.str sc,.ref p3,bv,.ref r])
  refine q (.tell n sc zs bs ms) _ _ ((gA.trans g4).trans (g5.trans g9)) ⟨p9,.ref p3,bv,.ref r,rfl,upd_same,⟨p3,rfl,g9 _ _ (g5 _ _ (g4 _ _ e3))⟩,bR_mono hbv (g5.trans g9),r,rfl,g9 _ _ h5⟩ (.inr ⟨_,_,_,_,rfl,⟨hsc0,by omega,fun z hzz=>hwd z (hz z hzz),⟨wl,last,hz2,hbok⟩,⟨by omega,by omega,fun z hzz=>hwd z (mz z hzz)⟩⟩⟩)
end
end D
namespace D
open PySem L2
def numsL (ts : List Th) : List Int:=(ts.flatMap Th.ord).map Th.num
theorem numsL_app (a b : List Th) : numsL (a ++ b) = numsL a ++ numsL b:=by
 unfold numsL
 rw [List.flatMap_append,List.map_append]
theorem numsL_part (n : Int) (ts : List Th) : numsL [.part n (F.of ts)] = n :: numsL ts:=by
 unfold numsL
 show ((Th.part n (F.of ts) :: (F.of ts).ord) ++ []).map Th.num = _
 rw [List.append_nil,List.map_cons,ord_flat,ths_of] <;> rfl
theorem numsL_leaf {n : Int} {t : Th} (h : Leaf n t) : numsL [t] = [n]:=by
 rcases h with ⟨ws,rfl,_⟩ | ⟨sc,ph,bs,ms,rfl,_⟩ <;> rfl
theorem numsL_len (ts : List Th) : ts.length <= (numsL ts).length:=by
 induction ts with
 | nil=>exact Nat.zero_le _
 | cons t r ih =>
  rw [show t :: r = [t] ++ r from rfl,numsL_app,List.length_append,List.length_append]
  have h1 : 1 <= (numsL [t]).length:=by
   unfold numsL
   show 1 <= (((t :: t.sub.ord) ++ []).map Th.num).length
   rw [List.length_map,List.length_append,List.length_cons]
   omega
  show 1 + r.length <= _
  omega
theorem dep_cons (t : Th) (f : F) : (t.cons f).dep = max (t.cons .nil).dep f.dep:=by
 cases t with
 | say n ws=>show f.dep = max 0 f.dep; omega
 | tell n sc ph bs ms=>show f.dep = max 0 f.dep; omega
 | part n i=>show max (i.dep + 1) f.dep = max (max (i.dep + 1) 0) f.dep; omega
theorem dep_app : ∀ (a b : List Th),(F.of (a ++ b)).dep = max (F.of a).dep (F.of b).dep
 | [],b=>by show (F.of b).dep = max 0 _; omega
 | t :: r,b=>by
  show (t.cons (F.of (r ++ b))).dep = max (t.cons (F.of r)).dep _
  rw [dep_cons,dep_cons t (F.of r),dep_app r b]
  omega
theorem dep_leaf {n : Int} {t : Th} (h : Leaf n t) : (F.of [t]).dep = 0:=by
 rcases h with ⟨ws,rfl,_⟩ | ⟨sc,ph,bs,ms,rfl,_⟩ <;> rfl
def TOk : Th -> Prop
 | .say _ ws=>Rw ws
 | .tell _ sc ph bs ms=>TlOk sc ph bs ms
 | .part _ _=>True
theorem leaf_ok {n : Int} {t : Th} (h : Leaf n t) : ∀ s ∈ [t].flatMap Th.ord,TOk s:=by
 intro s hs
 rcases h with ⟨ws,rfl,h⟩ | ⟨sc,ph,bs,ms,rfl,h⟩
 ·have e : s = .say n ws:=by simpa [Th.ord,Th.sub,F.ord] using hs
  rw [e]; exact h
 ·have e : s = .tell n sc ph bs ms:=by simpa [Th.ord,Th.sub,F.ord] using hs
  rw [e]; exact h
def allN (nums : List Int) (tss : List (List Th)) : List Int:=tss.flatMap numsL ++ nums.tail
structure Held (ns nums : List Int) (tss : List (List Th)) (m i : Nat) : Prop where
 len : nums.length = tss.length
 top : ∃ r,nums = 0 :: r
 most : nums.length <= 9
 dep : ∀ d ts,tss[d]? = some ts -> (F.of ts).dep + d <= 8
 perm : (allN nums tss).Perm ((List.range m).map fun j=>numZ ns (j : Nat))
 zero : m = 0 -> i = 0 /\ nums.length = 1
 mi : m <= i
 ok : ∀ ts ∈ tss,∀ t ∈ ts.flatMap Th.ord,TOk t
theorem Held.size {ns nums : List Int} {tss : List (List Th)} {m i : Nat} (h : Held ns nums tss m i) : ∀ ts ∈ tss,ts.length <= i:=fun ts ht=>by
 have h1:=h.perm.length_eq
 rw [List.length_map,List.length_range] at h1
 have h2 : (numsL ts).length <= (allN nums tss).length:=by
  unfold allN
  rw [List.length_append]
  have : (numsL ts).Sublist (tss.flatMap numsL):=List.sublist_flatten_of_mem (List.mem_map.mpr ⟨ts,ht,rfl⟩)
  have:=this.length_le
  omega
 have h3:=numsL_len ts
 have:=h.mi
 omega
theorem held_start (ns : List Int) : Held ns [0] [[]] 0 0:=by
 refine ⟨rfl,⟨[],rfl⟩,by decide,fun d ts h=>?_,.refl _,fun _=>⟨rfl,rfl⟩,Nat.le_refl _,fun ts hts t ht=>by rw [List.mem_singleton.mp hts] at ht; exact nomatch ht⟩
 cases d with
 | zero =>
  cases (Option.some.inj h)
  exact Nat.zero_le _
 | succ d=>cases h
theorem Held.ended {ns nums : List Int} {n : Int} {tss : List (List Th)} {ts1 ts2 : List Th} {m i j : Nat} (h : Held ns (nums ++ [n]) (tss ++ [ts1,ts2]) m i) (hij : i <= j) : Held ns nums (tss ++ [ts1 ++ [.part n (F.of ts2)]]) m j:=by
 have hl:=h.len
 rw [List.length_append,List.length_append] at hl
 have hl' : nums.length + 1 = tss.length + 2:=hl
 obtain ⟨r,hr⟩ : ∃ r,nums = 0 :: r:=by
  obtain ⟨r,e⟩:=h.top
  cases nums with
  | nil=>simp at hl'
  | cons x y =>
   have : x = 0:=(List.cons.inj e).1
   exact ⟨y,by rw [this]⟩
 have hm:=h.most
 rw [List.length_append,List.length_singleton] at hm
 refine ⟨?_,⟨r,hr⟩,by omega,fun d ts hd=>?_,?_,fun z=>?_,Nat.le_trans h.mi hij,fun ts hts t ht=>?_⟩
 ·rw [List.length_append,List.length_singleton]
  omega
 ·by_cases hd' : d < tss.length
  ·rw [List.getElem?_append_left hd'] at hd
   exact h.dep d ts (by rw [List.getElem?_append_left hd']; exact hd)
  ·rw [List.getElem?_append_right (by omega)] at hd
   have hd0 : d = tss.length:=by
    by_cases e : d - tss.length = 0
    ·omega
    ·obtain ⟨k,hk⟩ : ∃ k,d - tss.length = k + 1:=⟨d - tss.length - 1,by omega⟩
     rw [hk] at hd
     cases hd
   subst hd0
   rw [Nat.sub_self] at hd
   have e : ts1 ++ [Th.part n (F.of ts2)] = ts:=Option.some.inj hd
   subst e
   have d1:=h.dep tss.length ts1 (by rw [List.getElem?_append_right (Nat.le_refl _),Nat.sub_self] <;> rfl)
   have d2:=h.dep (tss.length + 1) ts2 (by rw [List.getElem?_append_right (by omega),show tss.length + 1 - tss.length = 1 by omega] <;> rfl)
   rw [dep_app]
   have : (F.of [Th.part n (F.of ts2)]).dep = (F.of ts2).dep + 1:=by show max ((F.of ts2).dep + 1) 0 = _; omega
   omega
 ·refine .trans ?_ h.perm
  subst hr
  unfold allN
  rw [List.flatMap_append,List.flatMap_append]
  show (tss.flatMap numsL ++ (numsL (ts1 ++ [Th.part n (F.of ts2)]) ++ []) ++ r).Perm (tss.flatMap numsL ++ (numsL ts1 ++ (numsL ts2 ++ [])) ++ (r ++ [n]))
  rw [numsL_app,numsL_part,List.perm_iff_count]
  intro x
  simp only [List.count_append,List.count_cons,List.count_nil]
  omega
 ·have:=(h.zero z).2
  rw [List.length_append,List.length_singleton] at this
  subst hr
  rw [List.length_cons] at this
  omega
 ·rcases List.mem_append.mp hts with z | z
  ·exact h.ok ts (List.mem_append_left _ z) t ht
  ·rw [List.mem_singleton.mp z,List.flatMap_append] at ht
   rcases List.mem_append.mp ht with y | y
   ·exact h.ok ts1 (by simp) t y
   ·have y : t ∈ (Th.part n (F.of ts2) :: (F.of ts2).ord) ++ []:=y
    rw [List.append_nil] at y
    rcases List.mem_cons.mp y with e | e
    ·rw [e]; trivial
    ·rw [ord_flat,ths_of] at e
     exact h.ok ts2 (by simp) t e
theorem range_succ_map (ns : List Int) (m : Nat) : ((List.range (m + 1)).map fun j=>numZ ns (j : Nat)) = ((List.range m).map fun j=>numZ ns (j : Nat)) ++ [numZ ns (m : Nat)]:=by
 rw [List.range_succ,List.map_append] <;> rfl
theorem Held.begun {ns nums : List Int} {tss : List (List Th)} {m i : Nat} (h : Held ns nums tss m i) (h8 : nums.length <= 8) : Held ns (nums ++ [numZ ns (m : Nat)]) (tss ++ [[]]) (m + 1) (i + 1):=by
 obtain ⟨r,rfl⟩:=h.top
 refine ⟨by rw [List.length_append,List.length_append,h.len] <;> rfl,⟨r ++ [numZ ns (m : Nat)],rfl⟩,by rw [List.length_append,List.length_singleton]; omega,fun d ts hd=>?_,?_,fun z=>absurd z (by omega),by have:=h.mi; omega,fun ts hts t ht=>?_⟩
 rotate_left 2
 ·rcases List.mem_append.mp hts with z | z
  ·exact h.ok ts z t ht
  ·rw [List.mem_singleton.mp z] at ht
   exact nomatch ht
 ·by_cases hd' : d < tss.length
  ·rw [List.getElem?_append_left hd'] at hd
   exact h.dep d ts hd
  ·rw [List.getElem?_append_right (by omega)] at hd
   have hd0 : d = tss.length:=by
    by_cases e : d - tss.length = 0
    ·omega
    ·obtain ⟨k,hk⟩ : ∃ k,d - tss.length = k + 1:=⟨d - tss.length - 1,by omega⟩
     rw [hk] at hd
     cases hd
   subst hd0
   rw [Nat.sub_self] at hd
   have e : [] = ts:=Option.some.inj hd
   subst e
   have:=h.len
   show 0 + _ <= 8
   omega
 ·rw [range_succ_map]
  refine .trans ?_ (h.perm.append_right [numZ ns (m : Nat)])
  unfold allN
  rw [List.flatMap_append]
  show (tss.flatMap numsL ++ [] ++ (r ++ [numZ ns (m : Nat)])).Perm (tss.flatMap numsL ++ r ++ [numZ ns (m : Nat)])
  rw [List.append_nil,List.append_assoc]
theorem Held.put {ns nums : List Int} {tss : List (List Th)} {ts : List Th} {t : Th} {m i : Nat} (h : Held ns nums (tss ++ [ts]) m i) (ht : Leaf (numZ ns (m : Nat)) t) : Held ns nums (tss ++ [ts ++ [t]]) (m + 1) (i + 1):=by
 have hl:=h.len
 rw [List.length_append,List.length_singleton] at hl
 refine ⟨by rw [List.length_append,List.length_singleton]; exact hl,h.top,h.most,fun d us hd=>?_,?_,fun z=>absurd z (by omega),by have:=h.mi; omega,fun us hus s hs=>?_⟩
 rotate_left 2
 ·rcases List.mem_append.mp hus with z | z
  ·exact h.ok us (List.mem_append_left _ z) s hs
  ·rw [List.mem_singleton.mp z,List.flatMap_append] at hs
   rcases List.mem_append.mp hs with y | y
   ·exact h.ok ts (by simp) s y
   ·exact leaf_ok ht s y
 ·by_cases hd' : d < tss.length
  ·rw [List.getElem?_append_left hd'] at hd
   exact h.dep d us (by rw [List.getElem?_append_left hd']; exact hd)
  ·rw [List.getElem?_append_right (by omega)] at hd
   have hd0 : d = tss.length:=by
    by_cases e : d - tss.length = 0
    ·omega
    ·obtain ⟨k,hk⟩ : ∃ k,d - tss.length = k + 1:=⟨d - tss.length - 1,by omega⟩
     rw [hk] at hd
     cases hd
   subst hd0
   rw [Nat.sub_self] at hd
   have e : ts ++ [t] = us:=Option.some.inj hd
   subst e
   have d1:=h.dep tss.length ts (by rw [List.getElem?_append_right (Nat.le_refl _),Nat.sub_self] <;> rfl)
   rw [dep_app,dep_leaf ht]
   omega
 ·rw [range_succ_map]
  refine .trans ?_ (h.perm.append_right [numZ ns (m : Nat)])
  unfold allN
  rw [List.flatMap_append,List.flatMap_append]
  show (tss.flatMap numsL ++ (numsL (ts ++ [t]) ++ []) ++ nums.tail).Perm (tss.flatMap numsL ++ (numsL ts ++ []) ++ nums.tail ++ [numZ ns (m : Nat)])
  rw [numsL_app,numsL_leaf ht,List.perm_iff_count]
  intro x
  simp only [List.count_append,List.count_cons,List.count_nil]
  omega
structure DocOk (ns : List Int) (f : F) (m : Nat) : Prop where
 dep : f.dep <= 8
 perm : (f.ord.map Th.num).Perm ((List.range m).map fun j=>numZ ns (j : Nat))
 one : 1 <= m
 ok : ∀ t ∈ f.ord,TOk t
theorem Held.doc {ns nums : List Int} {ts : List Th} {m i : Nat} (h : Held ns nums [ts] m i) (hi : 1 <= i) : DocOk ns (F.of ts) m:=by
 obtain ⟨r,hr⟩:=h.top
 have hl:=h.len
 rw [hr,List.length_cons] at hl
 have hr0 : r = []:=List.eq_nil_of_length_eq_zero (by simpa using hl)
 subst hr0
 refine ⟨h.dep 0 ts rfl,?_,?_,fun t ht=>by rw [ord_flat,ths_of] at ht; exact h.ok ts (by simp) t ht⟩
 ·have p:=h.perm
  rw [hr] at p
  unfold allN at p
  rw [ord_flat,ths_of]
  have e : [ts].flatMap numsL ++ List.tail [0] = (ts.flatMap Th.ord).map Th.num:=by
   show (numsL ts ++ []) ++ [] = _
   rw [List.append_nil,List.append_nil] <;> rfl
  rw [e] at p
  exact p
 ·by_cases z : m = 0
  ·have:=(h.zero z).1
   omega
  ·omega
end D
namespace D
open PySem L2
def spDoc (K : PySem.W.Frag) : Sp:=fun vs H Q _=>∃ (a : Addr) (ns : List Int) (mo : Int),vs = [.ref a,.int mo] /\ SqL K H a (ns.map V.int) /\ ns.length <= 63 /\ 0 <= mo /\ mo <= 59 /\
 ∀ (f : F) (m : Nat) v H',Same H H' -> partR H' 0 f v -> DocOk ns f m -> m <= max 6 mo.toNat -> Q v H'
theorem snoc_of {α : Type} {l : List α} (h : l ≠ []) : ∃ l' x,l = l' ++ [x]:=by
 rcases List.eq_nil_or_concat l with z | ⟨l',x,z⟩
 ·exact absurd z h
 ·exact ⟨l',x,by rw [z,List.concat_eq_append]⟩
theorem snoc2_of {α : Type} {l : List α} (h : 2 <= l.length) : ∃ l' x y,l = l' ++ [x,y]:=by
 obtain ⟨l1,y,rfl⟩:=snoc_of (l:=l) (by intro z; rw [z] at h; simp at h)
 rw [List.length_append,List.length_singleton] at h
 obtain ⟨l2,x,rfl⟩:=snoc_of (l:=l1) (by intro z; rw [z] at h; simp at h)
 exact ⟨l2,x,y,by simp⟩
section
variable {P : Program} {w : World} {K : PySem.W.Frag} {mg : Str -> Option Value} {base : Heap} {f : Addr} {fd : FuncData}
abbrev ND : List Str:=["_law_script","_law_most","_law_menu_here","_law_low","_law_numbers","_law_inner","_law_many_here","_law_k","_law_cell_here","_law_size"]
theorem scDoc : FnScope ND ["_law_script","_law_most"] (defScope s_l_document):=⟨rfl,rfl,rfl,by decide +kernel,rfl,by decide +kernel,by decide +kernel⟩
theorem Stk.begun {H0 H : Hp} {np ip : Addr} {nums : List Int} {tss : List (List Th)} {ls : List Addr} (S : Stk H0 H np ip nums tss ls) {n : Int} {l : Addr} (hl : upd H np (.lst ((nums ++ [n]).map V.int)) l = none) :
  Stk H0 (upd (upd (upd H np (.lst ((nums ++ [n]).map V.int))) l (.lst [])) ip (.lst ((ls ++ [l]).map V.ref))) np ip (nums ++ [n]) (tss ++ [[]]) (ls ++ [l]):=by
 have lp : l ≠ np:=fun e=>by rw [e,upd_same] at hl; cases hl
 have lH : H l = none:=by rw [upd_ne lp] at hl; exact hl
 have li : l ≠ ip:=(ne_of_none S.hi lH).symm
 have l0 : H0 l = none:=S.same.free lH
 have nl : l ∉ ls:=fun z=>by
  obtain ⟨i,hi⟩:=List.mem_iff_getElem?.mp z
  obtain ⟨ts,_,xs,h1,_⟩:=paired_get S.lv hi
  rw [lH] at h1
  cases h1
 have g1 : TSame H (upd H np (.lst ((nums ++ [n]).map V.int))):=TSame.lst S.hn
 have g2 : TSame (upd H np (.lst ((nums ++ [n]).map V.int))) (upd (upd H np (.lst ((nums ++ [n]).map V.int))) l (.lst [])):=TSame.new hl
 have hi2 : upd (upd H np (.lst ((nums ++ [n]).map V.int))) l (.lst []) ip = some (.lst (ls.map V.ref)):=by rw [upd_ne li.symm,upd_ne S.ni.symm]; exact S.hi
 have g3:=TSame.lst (o:=.lst ((ls ++ [l]).map V.ref)) hi2
 refine ⟨keep_upd S.fi (keep_upd l0 (keep_upd S.fn S.same _) _) _,?_,upd_same,?_,?_,S.ni,?_,?_,S.fn,S.fi,?_⟩
 ·rw [upd_ne S.ni,upd_ne lp.symm,upd_same]
 ·refine paired_app (lvls_keep ((g1.trans g2).trans g3) S.lv fun b hb o e=>?_) (.cons ⟨[],?_,.nil⟩ .nil)
  ·rw [upd_ne (fun (z : b = ip)=>S.ii (z ▸ hb)),upd_ne (fun (z : b = l)=>nl (z ▸ hb)),upd_ne (fun (z : b = np)=>S.nn (z ▸ hb))]
   exact e
  ·rw [upd_ne li,upd_same]
 ·rw [List.nodup_append]
  refine ⟨S.nd,by simp,fun x hx y hy z=>?_⟩
  rw [List.mem_singleton.mp hy] at z
  exact nl (z ▸ hx)
 ·intro z
  rcases List.mem_append.mp z with z | z
  ·exact S.nn z
  ·exact lp (List.mem_singleton.mp z).symm
 ·intro z
  rcases List.mem_append.mp z with z | z
  ·exact S.ii z
  ·exact li (List.mem_singleton.mp z).symm
 ·intro b hb
  rcases List.mem_append.mp hb with z | z
  ·exact S.fl b z
  ·rw [List.mem_singleton.mp z]; exact l0
theorem Stk.put {H0 H H1 : Hp} {np ip : Addr} {nums : List Int} {tss : List (List Th)} {ts : List Th} {ls : List Addr} {l : Addr} {xs : List V} {t : Th} {v : V} (S : Stk H0 H np ip nums (tss ++ [ts]) (ls ++ [l])) (g : Same H H1) (hl : H l = some (.lst xs)) (hx : thsR H ts xs) (ht : thR H1 t v) :
  Stk H0 (upd H1 l (.lst (xs ++ [v]))) np ip nums (tss ++ [ts ++ [t]]) (ls ++ [l]):=by
 have lm : l ∈ ls ++ [l]:=List.mem_append_right _ List.mem_cons_self
 have np' : np ≠ l:=fun e=>S.nn (e ▸ lm)
 have ip' : ip ≠ l:=fun e=>S.ii (e ▸ lm)
 have nd:=S.nd
 rw [List.nodup_append] at nd
 have nl : l ∉ ls:=fun z=>nd.2.2 l z l List.mem_cons_self rfl
 have hl1:=g _ _ hl
 have g2 : TSame H1 (upd H1 l (.lst (xs ++ [v]))):=TSame.lst hl1
 obtain ⟨m1,m2,e,p1,p2⟩:=paired_split S.lv
 have hm : m1.length = ls.length /\ m2.length = 1:=by
  have:=paired_len p2
  have e':=congrArg List.length e
  rw [List.length_append,List.length_append,List.length_singleton] at e'
  have : m2.length = 1:=this.symm
  omega
 obtain ⟨e1,e2⟩:=List.append_inj e hm.1.symm
 subst e1
 refine ⟨keep_upd (S.fl l lm) (S.same.trans g) _,?_,?_,?_,S.nd,S.ni,S.nn,S.ii,S.fn,S.fi,S.fl⟩
 ·rw [upd_ne np']; exact g _ _ S.hn
 ·rw [upd_ne ip']; exact g _ _ S.hi
 ·refine paired_app (lvls_keep (g.t.trans g2) p1 fun b hb o e=>?_) (.cons ⟨_,upd_same,paired_app ((hx.mono g.t).mono g2) (.cons (ht.mono g2) .nil)⟩ .nil)
  rw [upd_ne (fun (z : b = l)=>nl (z ▸ hb))]
  exact g _ _ e
set_option maxHeartbeats 8000000 in
theorem ok_doc (F : Fun K "_law_document" "_law_document" s_l_document f fd) (T : Nm mg) (GC : Def P w K mg base CX0 1 "_law_cell" ["_law_script","_law_k"] (spCell K)) (GM : Def P w K mg base CX0 2 "_law_menu" ["_law_script"] (spMenu K)) (GW : Def P w K mg base CX0 1 "_law_plain_words" ["_law_menu_here","_law_cell_here"] spPlain) (GN : Def P w K mg base CX0 2 "_law_number" ["_law_script","_law_k"] (spNum K))
  (GT : Def P w K mg base CX0 3 "_law_thing" ["_law_cell_here","_law_number_here","_law_menu_here","_law_size"] (spThing K)) (GE : Def P w K mg base CX0 1 "_law_ended" ["_law_numbers","_law_inner"] spEnded) : FnOk P w K mg base CX0 4 f fd ["_law_script","_law_most"] (spDoc K):=by
 refine F.ok scDoc (fun vs H Q E h=>?_) (fun cdv A outer s H vs Q E hr h=>?_)
 ·obtain ⟨a,ns,mo,rfl,_⟩:=h
  rfl
 obtain ⟨a,ns,mo,rfl,hS,h63,o0,o1,q⟩:=h
 refine ⟨_,pss_cons (ps_set (i:=2) scDoc.nd rfl (Or.inl rfl) (pe_def GW (hr.mono (by decide)) (pa_cons (pe_def GM (hr.mono (by decide)) (pa_cons (pv 0) pa_nil)) (pa_cons (pe_op op_fdiv (pe_def GC (hr.mono (by decide)) (pa_cons (pv 0) (pa_cons pe_int pa_nil))) pe_int) pa_nil))))
  (pss_cons (ps_set (i:=3) scDoc.nd rfl (Or.inl rfl) (pe_op op_sub pe_int (pe_op op_mul pe_int (pe_callTy call_int1 rfl T.int PyProof.Rows.boot_int (pa_cons (pe_cmpR op_eq (pe_op op_mod (pe_def GC (hr.mono (by decide)) (pa_cons (pv 0) (pa_cons pe_int pa_nil))) pe_int) pe_int (nomark _)) pa_nil)))))
  (pss_cons (ps_set (i:=4) scDoc.nd rfl (Or.inl rfl) (pe_lst (pa_cons pe_int pa_nil)))
  (pss_cons (ps_set (i:=5) scDoc.nd rfl (Or.inl rfl) (pe_lst (pa_cons (pe_lst pa_nil) pa_nil)))
  (pss_cons (ps_set (i:=6) scDoc.nd rfl (Or.inl rfl) pe_int)
  (pss_cons (ps_for PassesOwn.never rfl (pi_range2 rfl T.range (pa_cons pe_int (pa_cons (pe_callB (call_max2 rfl) rfl T.mx PyProof.Rows.boot_max (pa_cons pe_int (pa_cons (pe_callB (call_min2 rfl) rfl T.mn PyProof.Rows.boot_min (pa_cons (pe_op op_add pe_int (pv 1)) (pa_cons (pe_op op_sub (pe_callB call_len_seq rfl T.len PySem.boot_len (pa_cons (pv 0) pa_nil)) pe_int) pa_nil))) pa_nil))) pa_nil))) (pg_name (i:=7) scDoc.nd rfl (Or.inl rfl))
   (pss_cons (ps_set (i:=8) scDoc.nd rfl (Or.inl rfl) (pe_def GC (hr.mono (by decide)) (pa_cons (pv 0) (pa_cons (pe_op op_add pe_int (pv 7)) pa_nil))))
   (pss_one (ps_if (PW.pt (pw_and (pt_cmpR op_eq (pe_op op_mod (pv 8) pe_int) pe_int (nomark _)) (pw_and1 (pt_cmpR op_gt (pe_callB call_len_seq rfl T.len PySem.boot_len (pa_cons (pv 4) pa_nil)) pe_int (nomark _)))))
    (pss_one (ps_expr (pe_def GE (hr.mono (by decide)) (pa_cons (pv 4) (pa_cons (pv 5) pa_nil)))))
    (pss_one (ps_if (PW.pt (pw_and (pt_chain op_le op_le (pv 3) (pe_op op_mod (pv 8) pe_int) pe_int) (pw_and1 (pt_cmpR op_le (pe_callB call_len_seq rfl T.len PySem.boot_len (pa_cons (pv 4) pa_nil)) pe_int (nomark _)))))
     (pss_cons (ps_expr (pe_bm PySem.F.plainAttrs_list PySem.F.slot_list_append PySem.F.type_list_append mt_append (pv 4) (pa_cons (pe_def GN (hr.mono (by decide)) (pa_cons (pv 0) (pa_cons (pv 6) pa_nil))) pa_nil)))
     (pss_cons (ps_expr (pe_bm PySem.F.plainAttrs_list PySem.F.slot_list_append PySem.F.type_list_append mt_append (pv 5) (pa_cons (pe_lst pa_nil) pa_nil)))
     (pss_one (ps_set (i:=6) scDoc.nd rfl (Or.inl rfl) (pe_op op_add (pv 6) pe_int)))))
     (pss_cons (ps_set (i:=9) scDoc.nd rfl (Or.inl rfl) (pe_op op_add pe_int (pe_op op_mod (pe_op op_fdiv (pv 8) pe_int) pe_int)))
     (pss_cons (ps_if (pt_cmpR op_eq (pv 7) (pe_op op_add pe_int (pe_op op_mod (pe_op op_fdiv (pe_def GC (hr.mono (by decide)) (pa_cons (pv 0) (pa_cons pe_int pa_nil))) pe_int) pe_int)) (nomark _)) (pss_one (ps_set (i:=9) scDoc.nd rfl (Or.inl rfl) (pe_op op_add pe_int (pe_op op_fdiv (pe_op op_add (pv 9) pe_int) pe_int)))) pss_nil)
     (pss_cons (ps_expr (pe_bm PySem.F.plainAttrs_list PySem.F.slot_list_append PySem.F.type_list_append mt_append (pe_ix ix_list (pv 5) (pe_un un_neg pe_int) (fun _ _=>rfl)) (pa_cons (pe_def GT hr (pa_cons (pe_op op_fdiv (pv 8) pe_int) (pa_cons (pe_def GN (hr.mono (by decide)) (pa_cons (pv 0) (pa_cons (pv 6) pa_nil))) (pa_cons (pv 2) (pa_cons (pv 9) pa_nil))))) pa_nil)))
     (pss_one (ps_set (i:=6) scDoc.nd rfl (Or.inl rfl) (pe_op op_add (pv 6) pe_int))))))))))))
  (pss_cons (ps_while PassesOwn.never (pt_cmpR op_gt (pe_callB call_len_seq rfl T.len PySem.boot_len (pa_cons (pv 4) pa_nil)) pe_int (nomark _)) (pss_one (ps_expr (pe_def GE (hr.mono (by decide)) (pa_cons (pv 4) (pa_cons (pv 5) pa_nil))))))
  (pss_one (ps_ret (pe_tup (pa_cons pe_str (pa_cons pe_int (pa_cons (pe_callTy call_tuple_of rfl T.tuple PyProof.Rows.boot_tuple (pa_cons (pe_ix ix_list (pv 5) pe_int (fun _ _=>rfl)) pa_nil)) pa_nil)))))))))))),?_⟩
 have hb:=big
 refine ⟨_,rfl,a,ns,rfl,hS,h63,fun ws0 me H00 g00 hme0 fme hwl0 hwd0=>?_⟩
 refine ⟨_,rfl,a,ns,2,rfl,g00.seq hS,h63,by decide,by decide,_,_,rfl,rfl,⟨by decide,by decide⟩,me,ws0,_,rfl,hme0,hwl0,hwd0,fun ws H0 hme kp hwl hwd=>?_⟩
 have g0 : Same H H0:=fun b o e=>kp b o (ne_of_none e fme) (g00 _ _ e)
 refine ⟨_,rfl,a,ns,3,rfl,g0.seq hS,h63,by decide,by decide,_,_,rfl,rfl,(by show (0 : Int) < _; decide),rfl,.inr ⟨_,rfl,_,_,rfl,rfl,.inl ⟨by decide,by decide⟩,_,_,rfl,rfl,?_⟩⟩
 dsimp only
 generalize (5 - 2 * (if decide (V.int (cellZ ns 3 % 8) = V.int 1) = true then (1 : Int) else 0)) = low
 refine ⟨(by show 1 <= sizeLine; decide),fun np hnp=>?_⟩
 refine ⟨(by show 0 <= sizeLine; decide),fun l0 hl0=>⟨(by show 1 <= sizeLine; decide),fun ip hip=>?_⟩⟩
 have S0 : Stk H0 (upd (upd (upd H0 np (.lst [.int 0])) l0 (.lst [])) ip (.lst [.ref l0])) np ip [0] [[]] [l0]:=by
  have a1 : l0 ≠ np:=fun e=>by rw [e,upd_same] at hl0; cases hl0
  have a2 : ip ≠ l0:=fun e=>by rw [e,upd_same] at hip; cases hip
  have a3 : ip ≠ np:=fun e=>by rw [e,upd_ne a1.symm,upd_same] at hip; cases hip
  have f1 : H0 l0 = none:=by rw [upd_ne a1] at hl0; exact hl0
  have f2 : H0 ip = none:=by rw [upd_ne a2,upd_ne a3] at hip; exact hip
  refine ⟨keep_upd f2 (keep_upd f1 (keep_upd hnp (Same.refl _) _) _) _,?_,upd_same,.cons ⟨[],?_,.nil⟩ .nil,by simp,a3.symm,by simpa using a1.symm,by simpa using a2,hnp,f2,fun l hl=>?_⟩
  ·rw [upd_ne a3.symm,upd_ne a1.symm,upd_same] <;> rfl
  ·rw [upd_ne a2.symm,upd_same]
  ·rw [List.mem_singleton.mp hl]; exact f1
 generalize upd (upd (upd H0 np (.lst [.int 0])) l0 (.lst [])) ip (.lst [.ref l0]) = HS at S0 ⊢
 have hl63 : (ns.map V.int).length = ns.length:=List.length_map _
 refine ⟨_,rfl,_,_,rfl,rfl,_,rfl,a,_,rfl,.inl ((g0.trans S0.same).seq hS),_,_,rfl,rfl,_,_,rfl,_,_,rfl,4,_,rfl,?_⟩
 rw [hl63]
 have c1 : 10 <= (if (if (ns.length : Int) - 5 < 4 + mo then (ns.length : Int) - 5 else 4 + mo) > 10 then (if (ns.length : Int) - 5 < 4 + mo then (ns.length : Int) - 5 else 4 + mo) else 10):=by split <;> split <;> omega
 have c2 : (if (if (ns.length : Int) - 5 < 4 + mo then (ns.length : Int) - 5 else 4 + mo) > 10 then (if (ns.length : Int) - 5 < 4 + mo then (ns.length : Int) - 5 else 4 + mo) else 10) <= 63:=by split <;> split <;> omega
 have c3 : (if (if (ns.length : Int) - 5 < 4 + mo then (ns.length : Int) - 5 else 4 + mo) > 10 then (if (ns.length : Int) - 5 < 4 + mo then (ns.length : Int) - 5 else 4 + mo) else 10) - 4 <= max 6 mo:=by split <;> split <;> omega
 generalize (if (if (ns.length : Int) - 5 < 4 + mo then (ns.length : Int) - 5 else 4 + mo) > 10 then (if (ns.length : Int) - 5 < 4 + mo then (ns.length : Int) - 5 else 4 + mo) else 10) = hi at c1 c2 c3 ⊢
 refine ⟨⟨by omega,by omega,by omega,by omega⟩,?_⟩
 refine for_range (lo:=4) (n:=(hi - 4).toNat) (fun i σ' H'=>∃ (nums : List Int) (tss : List (List Th)) (ls : List Addr) (m : Nat) (u7 u8 u9 : Option V),σ' = [some (.ref a),some (.int mo),some (.ref me),some (.int low),some (.ref np),some (.ref ip),some (.int (m : Nat)),u7,u8,u9] /\ Stk H0 H' np ip nums tss ls /\ Held ns nums tss m i) ?_ ?_ ?_
 ·exact ⟨[0],[[]],[l0],0,none,none,none,rfl,S0,held_start ns⟩
 ·rintro i σ' H' hin ⟨nums,tss,ls,m,u7,u8,u9,rfl,S,Hd⟩
  have gS:=g0.trans S.same
  have hnl : (nums.map V.int).length = nums.length:=List.length_map _
  have hmi:=Hd.mi
  have hm9:=Hd.most
  have hi63 : i < 63:=by omega
  refine ⟨_,rfl,_,rfl,_,_,rfl,rfl,a,ns,_,rfl,gS.seq hS,h63,by omega,by omega,?_⟩
  generalize cellZ ns (5 + (4 + (i : Int))) = c
  have rest : ∀ (t : TS) (R : Ends),R.nx = (fun σ' H'=>∃ (nums : List Int) (tss : List (List Th)) (ls : List Addr) (m : Nat) (u7 u8 u9 : Option V),σ' = [some (.ref a),some (.int mo),some (.ref me),some (.int low),some (.ref np),some (.ref ip),some (.int (m : Nat)),u7,u8,u9] /\ Stk H0 H' np ip nums tss ls /\ Held ns nums tss m (i + 1)) ->
    t = tIfS (tAnd (tTest (tChain (rI0 fun i j=>.bl (decide (i <= j))) (rI0 fun i j=>.bl (decide (i <= j))) (tVar 3) (tOp (rI (fun _ j=>0 < j) fun i j=>.int (i % j)) (tVar 8) (tC (.int 7))) (tC (.int 5)))) (tTest (tOp (rI0 fun i j=>.bl (decide (i <= j))) (tCB (fun xs H Q=>∃ p ys,xs = [.ref p] /\ (SqL K H p ys ∨ SqT K H p ys) /\ Q (.int ys.length) H) (tCons (tVar 4) tNil)) (tC (.int 8)))))
     (tSeq (tDrop (tBM K "list" rAppend (tVar 4) (tCons (tCall (spNum K) [] E0 (tCons (tVar 0) (tCons (tVar 6) tNil))) tNil))) (tSeq (tDrop (tBM K "list" rAppend (tVar 5) (tCons (tLst tNil) tNil))) (tAsg (tOp (rI0 fun i j=>.int (i + j)) (tVar 6) (tC (.int 1))) (gName 6))))
     (tSeq (tAsg (tOp (rI0 fun i j=>.int (i + j)) (tC (.int 1)) (tOp (rI (fun _ j=>0 < j) fun i j=>.int (i % j)) (tOp (rI CDiv fun i j=>.int (i / j)) (tVar 8) (tC (.int 63))) (tC (.int 6)))) (gName 9)) (tSeq (tIfS (tTest (tOp rEq (tVar 7) (tOp (rI0 fun i j=>.int (i + j)) (tC (.int 4)) (tOp (rI (fun _ j=>0 < j) fun i j=>.int (i % j)) (tOp (rI CDiv fun i j=>.int (i / j)) (tCall (spCell K) [] E0 (tCons (tVar 0) (tCons (tC (.int 3)) tNil))) (tC (.int 8))) (tC (.int 16)))))) (tAsg (tOp (rI0 fun i j=>.int (i + j)) (tC (.int 197)) (tOp (rI CDiv fun i j=>.int (i / j)) (tOp (rI0 fun i j=>.int (i + j)) (tVar 9) (tC (.int 1))) (tC (.int 2)))) (gName 9)) tNext)
      (tSeq (tDrop (tBM K "list" rAppend (tOp (rIxL K) (tVar 5) (tUn (rU fun i=>.int (-i)) (tC (.int 1)))) (tCons (tCall (spThing K) [] E0 (tCons (tOp (rI CDiv fun i j=>.int (i / j)) (tVar 8) (tC (.int 7))) (tCons (tCall (spNum K) [] E0 (tCons (tVar 0) (tCons (tVar 6) tNil))) (tCons (tVar 2) (tCons (tVar 9) tNil))))) tNil))) (tAsg (tOp (rI0 fun i j=>.int (i + j)) (tVar 6) (tC (.int 1))) (gName 6))))) ->
    t R [some (.ref a),some (.int mo),some (.ref me),some (.int low),some (.ref np),some (.ref ip),some (.int (m : Nat)),some (.int (4 + (i : Int))),some (.int c),u9] H':=by
   rintro t R hR rfl
   have thing : ∀ (u : TS),u = (tSeq (tAsg (tOp (rI0 fun i j=>.int (i + j)) (tC (.int 1)) (tOp (rI (fun _ j=>0 < j) fun i j=>.int (i % j)) (tOp (rI CDiv fun i j=>.int (i / j)) (tVar 8) (tC (.int 63))) (tC (.int 6)))) (gName 9)) (tSeq (tIfS (tTest (tOp rEq (tVar 7) (tOp (rI0 fun i j=>.int (i + j)) (tC (.int 4)) (tOp (rI (fun _ j=>0 < j) fun i j=>.int (i % j)) (tOp (rI CDiv fun i j=>.int (i / j)) (tCall (spCell K) [] E0 (tCons (tVar 0) (tCons (tC (.int 3)) tNil))) (tC (.int 8))) (tC (.int 16)))))) (tAsg (tOp (rI0 fun i j=>.int (i + j)) (tC (.int 197)) (tOp (rI CDiv fun i j=>.int (i / j)) (tOp (rI0 fun i j=>.int (i + j)) (tVar 9) (tC (.int 1))) (tC (.int 2)))) (gName 9)) tNext)
      (tSeq (tDrop (tBM K "list" rAppend (tOp (rIxL K) (tVar 5) (tUn (rU fun i=>.int (-i)) (tC (.int 1)))) (tCons (tCall (spThing K) [] E0 (tCons (tOp (rI CDiv fun i j=>.int (i / j)) (tVar 8) (tC (.int 7))) (tCons (tCall (spNum K) [] E0 (tCons (tVar 0) (tCons (tVar 6) tNil))) (tCons (tVar 2) (tCons (tVar 9) tNil))))) tNil))) (tAsg (tOp (rI0 fun i j=>.int (i + j)) (tVar 6) (tC (.int 1))) (gName 6))))) -> u R [some (.ref a),some (.int mo),some (.ref me),some (.int low),some (.ref np),some (.ref ip),some (.int (m : Nat)),some (.int (4 + (i : Int))),some (.int c),u9] H':=by
    rintro u rfl
    have z0 : 0 <= c / 63 % 6:=Int.emod_nonneg _ (by decide)
    have z1 : c / 63 % 6 < 6:=Int.emod_lt_of_pos _ (by decide)
    refine ⟨_,rfl,_,_,rfl,rfl,⟨by decide,by decide⟩,_,_,rfl,rfl,(by show (0 : Int) < _; decide),_,_,rfl,rfl,?_⟩
    dsimp only
    generalize hsz : 1 + c / 63 % 6 = sz
    have y0 : 1 <= sz:=by omega
    have y1 : sz <= 6:=by omega
    clear z0 z1 hsz
    have fin : ∀ sz : Int,1 <= sz -> sz <= 200 -> ∀ (u : TS),u = (tSeq (tDrop (tBM K "list" rAppend (tOp (rIxL K) (tVar 5) (tUn (rU fun i=>.int (-i)) (tC (.int 1)))) (tCons (tCall (spThing K) [] E0 (tCons (tOp (rI CDiv fun i j=>.int (i / j)) (tVar 8) (tC (.int 7))) (tCons (tCall (spNum K) [] E0 (tCons (tVar 0) (tCons (tVar 6) tNil))) (tCons (tVar 2) (tCons (tVar 9) tNil))))) tNil))) (tAsg (tOp (rI0 fun i j=>.int (i + j)) (tVar 6) (tC (.int 1))) (gName 6))) ->
      u R [some (.ref a),some (.int mo),some (.ref me),some (.int low),some (.ref np),some (.ref ip),some (.int (m : Nat)),some (.int (4 + (i : Int))),some (.int c),some (.int sz)] H':=by
     rintro sz s0 s1 u rfl
     obtain ⟨r0,hr0⟩:=Hd.top
     have hlen:=Hd.len
     obtain ⟨tss',ts,rfl⟩:=snoc_of (l:=tss) (by intro z; rw [z,hr0] at hlen; simp at hlen)
     obtain ⟨l1,l2,e,p1,p2⟩:=paired_split S.lv
     cases p2 with
     | cons k p3 =>
      rename_i lx _
      cases p3
      obtain ⟨xs,hx,hxt⟩:=k
      subst e
      have hat : atI ((l1 ++ [lx]).map V.ref) (-1) = some (.ref lx):=by rw [List.map_append]; exact atI_last _ _
      have hxl : xs.length <= 63:=by
       rw [<- paired_len hxt]
       have:=Hd.size ts (List.mem_append_right _ List.mem_cons_self)
       omega
      refine ⟨_,rfl,1,rfl,ip,_,_,_,rfl,rfl,SqL.of S.hi,hat,.inl ⟨rfl,_,SqL.of hx⟩,_,rfl,_,_,rfl,rfl,⟨by decide,by decide⟩,_,rfl,_,rfl,a,ns,_,rfl,gS.seq hS,h63,by omega,by omega,_,rfl,_,rfl,_,_,me,ws,sz,rfl,SqL.of (S.same _ _ hme),hwl,hwd,s0,s1,fun t v H2 g2 ht hlf=>?_⟩
      refine ⟨lx,_,_,rfl,rfl,g2 _ _ hx,by omega,?_⟩
      refine ⟨_,rfl,_,_,rfl,rfl,?_⟩
      show R.nx _ _
      rw [hR]
      exact ⟨nums,tss' ++ [ts ++ [t]],l1 ++ [lx],m + 1,_,_,_,rfl,S.put g2 hx hxt ht,Hd.put hlf⟩
    refine ⟨_,rfl,_,rfl,a,ns,3,rfl,gS.seq hS,h63,by decide,by decide,_,_,rfl,rfl,⟨by decide,by decide⟩,_,_,rfl,rfl,(by show (0 : Int) < _; decide),_,_,rfl,rfl,rfl,_,rfl,?_⟩
    refine ite2 (fun d=>?_) (fun d=>?_)
    ·refine ⟨_,rfl,_,_,rfl,rfl,_,_,rfl,rfl,⟨by decide,by decide⟩,_,_,rfl,rfl,?_⟩
     exact fin _ (by omega) (by omega) (tSeq _ _) rfl
    ·exact fin sz y0 (by omega) (tSeq _ _) rfl
   refine ⟨_,rfl,_,rfl,_,_,rfl,rfl,(by show (0 : Int) < _; decide),_,_,rfl,rfl,_,rfl,?_⟩
   refine ite2 (fun d=>?_) (fun d=>?_)
   ·refine ⟨_,_,rfl,rfl,_,rfl,?_⟩
    refine ite2 (fun d2=>?_) (fun d2=>?_)
    ·refine ⟨_,rfl,np,_,rfl,.inl (SqL.of S.hn),_,_,rfl,rfl,_,rfl,?_⟩
     refine ite2 (fun d3=>?_) (fun d3=>?_)
     ·have d3' : (((nums.map V.int).length : Nat) : Int) <= 8:=of_decide_eq_true d3
      rw [hnl] at d3'
      refine ⟨_,rfl,.inl ⟨rfl,_,SqL.of S.hn⟩,_,rfl,_,rfl,a,ns,_,rfl,gS.seq hS,h63,by omega,by omega,np,_,_,rfl,rfl,S.hn,by rw [hnl]; omega,?_⟩
      have en : nums.map V.int ++ [V.int (numZ ns (m : Nat))] = (nums ++ [numZ ns (m : Nat)]).map V.int:=by rw [List.map_append] <;> rfl
      rw [en]
      have hi1 : upd H' np (.lst ((nums ++ [numZ ns (m : Nat)]).map V.int)) ip = some (.lst (ls.map V.ref)):=by rw [upd_ne S.ni.symm]; exact S.hi
      refine ⟨_,rfl,.inl ⟨rfl,_,SqL.of hi1⟩,(by show 0 <= sizeLine; decide),fun l hl=>?_⟩
      have hil : ip ≠ l:=ne_of_none hi1 hl
      have lsl : ls.length <= 9:=by rw [<- paired_len S.lv,<- Hd.len]; exact hm9
      refine ⟨ip,_,_,rfl,rfl,by rw [upd_ne hil]; exact hi1,by rw [List.length_map]; omega,?_⟩
      refine ⟨_,rfl,_,_,rfl,rfl,?_⟩
      show R.nx _ _
      rw [hR]
      have el : ls.map V.ref ++ [V.ref l] = (ls ++ [l]).map V.ref:=by rw [List.map_append] <;> rfl
      rw [el]
      exact ⟨nums ++ [numZ ns (m : Nat)],tss ++ [[]],ls ++ [l],m + 1,_,_,_,rfl,S.begun hl,Hd.begun (by omega)⟩
     ·exact thing (tSeq _ _) rfl
    ·exact thing (tSeq _ _) rfl
   ·refine ⟨_,rfl,?_⟩
    exact thing (tSeq _ _) rfl
  refine ⟨_,rfl,_,_,rfl,rfl,(by show (0 : Int) < _; decide),rfl,_,rfl,?_⟩
  refine ite2 (fun d=>?_) (fun d=>?_)
  ·refine ⟨_,rfl,np,_,rfl,.inl (SqL.of S.hn),_,_,rfl,rfl,_,rfl,?_⟩
   refine ite2 (fun d2=>?_) (fun d2=>?_)
   ·have d2' : (1 : Int) < (((nums.map V.int).length : Nat) : Int):=of_decide_eq_true d2
    rw [hnl] at d2'
    obtain ⟨nums',n,rfl⟩:=snoc_of (l:=nums) (by intro z; rw [z] at d2'; simp at d2')
    have hlen:=Hd.len
    obtain ⟨tss',ts1,ts2,rfl⟩:=snoc2_of (l:=tss) (by omega)
    have b1:=Hd.size ts1 (by simp)
    have b2:=Hd.size ts2 (by simp)
    refine ⟨_,rfl,_,rfl,H0,np,ip,nums',n,tss',ts1,ts2,ls,rfl,S,by omega,by omega,fun H2 ls' S2=>?_⟩
    exact ⟨nums',_,ls',m,_,_,_,rfl,S2,Hd.ended (Nat.le_succ i)⟩
   ·exact rest (tIfS _ _ _) _ rfl rfl
  ·exact rest (tIfS _ _ _) _ rfl rfl
 ·rintro σ' H' ⟨nums,tss,ls,m,u7,u8,u9,rfl,S,Hd⟩
  refine while_by (fun σ2 H2=>∃ (nums : List Int) (tss : List (List Th)) (ls : List Addr),σ2 = [some (.ref a),some (.int mo),some (.ref me),some (.int low),some (.ref np),some (.ref ip),some (.int (m : Nat)),u7,u8,u9] /\ Stk H0 H2 np ip nums tss ls /\ Held ns nums tss m (hi - 4).toNat)
   (fun _ H2=>match H2 np with | some (.lst xs)=>xs.length | _=>0) ⟨nums,tss,ls,rfl,S,Hd⟩ ?_ (fun σ H Q Q' hq z=>?_)
  rotate_left
  ·obtain ⟨v,hv,p,ys,e,h,i,j,e1,e2,k,e3,z⟩:=z
   exact ⟨v,hv,p,ys,e,h,i,j,e1,e2,k,e3,hq _ _ z⟩
  rintro σ2 H2 ⟨nums,tss,ls,rfl,S,Hd⟩
  have hnl : (nums.map V.int).length = nums.length:=List.length_map _
  refine ⟨_,rfl,np,_,rfl,.inl (SqL.of S.hn),_,_,rfl,rfl,_,rfl,?_⟩
  refine ite2 (fun d2=>?_) (fun d2=>?_)
  ·have d2' : (1 : Int) < (((nums.map V.int).length : Nat) : Int):=of_decide_eq_true d2
   rw [hnl] at d2'
   obtain ⟨nums',n,rfl⟩:=snoc_of (l:=nums) (by intro z; rw [z] at d2'; simp at d2')
   have hlen:=Hd.len
   obtain ⟨tss',ts1,ts2,rfl⟩:=snoc2_of (l:=tss) (by omega)
   have b1:=Hd.size ts1 (by simp)
   have b2:=Hd.size ts2 (by simp)
   refine ⟨_,rfl,_,rfl,H0,np,ip,nums',n,tss',ts1,ts2,ls,rfl,S,by omega,by omega,fun H3 ls' S3=>?_⟩
   refine ⟨⟨nums',_,ls',rfl,S3,Hd.ended (Nat.le_refl _)⟩,?_⟩
   show (match H3 np with | some (.lst xs)=>xs.length | _=>0) < (match H2 np with | some (.lst xs)=>xs.length | _=>0)
   rw [S.hn,S3.hn]
   show (nums'.map V.int).length < ((nums' ++ [n]).map V.int).length
   rw [List.length_map,List.length_map,List.length_append,List.length_singleton]
   omega
  ·have d2' : ¬ (1 : Int) < (((nums.map V.int).length : Nat) : Int):=of_decide_eq_false (Bool.eq_false_iff.mpr d2)
   rw [hnl] at d2'
   obtain ⟨r0,hr0⟩:=Hd.top
   have hlen:=Hd.len
   have h1 : tss.length = 1:=by rw [hr0] at hlen d2'; rw [List.length_cons] at hlen d2'; omega
   obtain ⟨ts,rfl⟩ : ∃ ts,tss = [ts]:=by
    cases tss with
    | nil=>simp at h1
    | cons t r =>
     have hr : r = []:=List.eq_nil_of_length_eq_zero (by simpa using h1)
     exact ⟨t,by rw [hr]⟩
   have hlv:=S.lv
   cases hlv with
   | cons k p =>
    rename_i l _
    cases p
    obtain ⟨xs,hx,hxt⟩:=k
    have hat : atI ([l].map V.ref) 0 = some (.ref l):=rfl
    refine ⟨_,rfl,ip,_,_,_,rfl,rfl,SqL.of S.hi,hat,l,_,rfl,.inl ⟨SqL.of hx,fun t ht=>⟨(by show 3 <= sizeLine; decide),fun p hp=>?_⟩⟩⟩
    have g1:=same_new ht (.tup xs)
    have g2:=same_new hp (.tup [.str "part",.int 0,.ref t])
    refine q (L2.F.of ts) m _ _ (((g0.trans S.same).trans g1).trans g2) ⟨p,t,xs,rfl,upd_same,g2 _ _ upd_same,fR_iff.mpr (by rw [ths_of]; exact hxt.mono (g1.trans g2).t)⟩ (Hd.doc (by omega)) ?_
    have:=Hd.mi
    omega
end
end D
namespace D
open PySem L2
theorem cs_join2 (s x y : Str) (r : List Str) : cs (Str.join s (x :: y :: r)) = cs x ++ (cs s ++ cs (Str.join s (y :: r))):=by
 show cs (x ++ s ++ Str.join s (y :: r)) = _
 rw [cs_app,cs_app,List.append_assoc]
theorem join_len {z : Str} {m : Nat} (hz : z.length <= 1) : ∀ {ys : List Str},(∀ y ∈ ys,y.length <= m) -> (Str.join z ys).length <= (m + 1) * ys.length
 | [],_=>by rw [<- cs_len]; exact Nat.zero_le _
 | [y],h=>by
  have:=h y List.mem_cons_self
  show y.length <= (m + 1) * 1
  omega
 | y :: y2 :: r,h=>by
  have z1:=h y List.mem_cons_self
  have i:=join_len hz (ys:=y2 :: r) (fun p hp=>h p (List.mem_cons_of_mem _ hp))
  rw [<- cs_len,cs_join2,List.length_append,List.length_append,cs_len,cs_len,cs_len,show (y :: y2 :: r).length = (y2 :: r).length + 1 from rfl,Nat.mul_add]
  omega
theorem sum_len {m : Nat} : ∀ {ys : List Str},(∀ y ∈ ys,y.length <= m) -> (ys.map (·.length)).sum <= m * ys.length
 | [],_=>Nat.zero_le _
 | y :: r,h=>by
  have z:=h y List.mem_cons_self
  have i:=sum_len (ys:=r) (fun p hp=>h p (List.mem_cons_of_mem _ hp))
  rw [List.map_cons,List.sum_cons,List.length_cons,Nat.mul_add]
  omega
def addB (h : Str) (b : Str × Str) : Str:=h ++ " " ++ b.1 ++ ">" ++ b.2
def headOf (sc : Str) (ph : List Str) (bs : List (Str × Str)) : Str:=bs.foldl addB ("tell " ++ sc ++ " " ++ Str.join " " ph)
def lineOf : Th -> Str
 | .say _ ws=>"say " ++ Str.join " " ws
 | .tell _ sc ph bs ms=>headOf sc ph bs ++ ": " ++ Str.join " " ms
 | .part _ _=>"part"
def linesF : F -> List Str
 | .nil=>[]
 | .say n ws r=>lineOf (.say n ws) :: linesF r
 | .tell n sc ph bs ms r=>lineOf (.tell n sc ph bs ms) :: linesF r
 | .part _ i r=>("part" : Str) :: (linesF i ++ (("end" : Str) :: linesF r))
def textF (f : F) : Str:=Str.join "\n" (linesF f)
theorem rw_len {ws : List Str} (h : Rw ws) : (Str.join " " ws).length <= 4200 /\ (ws.map (·.length)).sum + ws.length * (" " : Str).length <= 16777216:=by
 obtain ⟨_,h2,h3⟩:=h
 have e : (" " : Str).length = 1:=by decide +kernel
 have a:=join_len (z:=" ") (m:=20) (by rw [e]; exact Nat.le_refl _) (ys:=ws) fun y hy=>(h3 y hy).2.1
 have b:=sum_len (m:=20) (ys:=ws) fun y hy=>(h3 y hy).2.1
 rw [e]
 omega
theorem head_len {sc : Str} {ph : List Str} {ms : List Str} {bs cs' : List (Str × Str)} (h : TlOk sc ph bs ms) (hp : cs'.length <= 5) (hc : ∀ b ∈ cs',b ∈ bs) : (headOf sc ph cs').length <= 94 + 42 * cs'.length:=by
 obtain ⟨ws,last,e,hb⟩:=h.hbs
 have L20 : last.length <= 20:=(h.hph last (by rw [e]; exact List.mem_append_right _ List.mem_cons_self)).2.1
 have s4 : sc.length <= 4:=by
  have:=h.hsc
  simp only [List.mem_cons,List.not_mem_nil,or_false] at this
  rcases this with rfl | rfl | rfl | rfl <;> decide +kernel
 have e1 : (" " : Str).length = 1:=by decide +kernel
 have e2 : (">" : Str).length = 1:=by decide +kernel
 have e5 : ("tell " : Str).length = 5:=by decide +kernel
 have a:=join_len (z:=" ") (m:=20) (by rw [e1]; exact Nat.le_refl _) (ys:=ph) fun y hy=>(h.hph y hy).2.1
 have h4:=h.hlen
 have st : ("tell " ++ sc ++ " " ++ Str.join " " ph).length <= 94:=by
  rw [len_app,len_app,len_app,e1,e5]
  omega
 unfold headOf
 have key : ∀ (l : List (Str × Str)) (x : Str),(∀ b ∈ l,b.1.length <= 20 /\ b.2.length <= 20) -> (l.foldl addB x).length <= x.length + 42 * l.length:=by
  intro l
  induction l with
  | nil=>intro x _; exact Nat.le_refl _
  | cons b r ih =>
   intro x hx
   have b1:=hx b List.mem_cons_self
   have:=ih (addB x b) fun z hz=>hx z (List.mem_cons_of_mem _ hz)
   have eb : (addB x b).length = x.length + 1 + b.1.length + 1 + b.2.length:=by
    unfold addB
    rw [len_app,len_app,len_app,len_app,e1,e2]
   rw [eb] at this
   rw [List.foldl_cons,List.length_cons]
   omega
 have:=key cs' ("tell " ++ sc ++ " " ++ Str.join " " ph) fun b hb'=>by
  have f:=hb.fit b (hc b hb')
  exact ⟨by omega,f.2.2.1⟩
 omega
def spLine : Sp:=fun vs H Q _=>∃ (t : Th) (v : V),vs = [v] /\ thR H t v /\ TOk t /\ (¬ ∃ n i,t = .part n i) /\ ((lineOf t).length <= 5000 -> ∀ H',Same H H' -> Q (.str (lineOf t)) H')
section
variable {P : Program} {w : World} {K : PySem.W.Frag} {mg : Str -> Option Value} {base : Heap} {f : Addr} {fd : FuncData}
theorem scLine : FnScope ["_law_thing_here","_law_words","_law_head","_law_cut","_law_put"] ["_law_thing_here"] (defScope s_l_line):=⟨rfl,rfl,rfl,by decide +kernel,rfl,by decide +kernel,by decide +kernel⟩
set_option maxHeartbeats 8000000 in
theorem ok_line (F : Fun K "_law_line" "_law_line" s_l_line f fd) : FnOk P w K mg base CX0 1 f fd ["_law_thing_here"] spLine:=by
 refine F.ok scLine (fun vs H Q E h=>?_) (fun cdv A outer s H vs Q E hr h=>?_)
 ·obtain ⟨t,v,rfl,_⟩:=h
  rfl
 obtain ⟨t,v,rfl,hv,hok,hnp,q⟩:=h
 refine ⟨_,pss_cons (ps_set (i:=1) scLine.nd rfl (Or.inl rfl) (pe_bm PySem.F.plainAttrs_str PySem.F.slot_str_join PySem.F.type_str_join mt_join pe_str (pa_cons (pe_ix ix_tup (pv 0) (pe_un un_neg pe_int) (fun _ _=>rfl)) pa_nil)))
  (pss_cons (ps_if (pt_cmpR op_eq (pe_ix ix_tup (pv 0) pe_int (fun _ _=>rfl)) pe_str (nomark _)) (pss_one (ps_ret (pe_op op_add_str pe_str (pv 1)))) pss_nil)
  (pss_cons (ps_set (i:=2) scLine.nd rfl (Or.inl rfl) (pe_op op_add_str (pe_op op_add_str (pe_op op_add_str pe_str (pe_ix ix_tup (pv 0) pe_int (fun _ _=>rfl))) pe_str) (pe_bm PySem.F.plainAttrs_str PySem.F.slot_str_join PySem.F.type_str_join mt_join pe_str (pa_cons (pe_ix ix_tup (pv 0) pe_int (fun _ _=>rfl)) pa_nil))))
  (pss_cons (ps_for PassesOwn.never rfl (pi_tup (pe_ix ix_tup (pv 0) pe_int (fun _ _=>rfl))) (pg_tup rfl (pgs_cons (pg_name (i:=3) scLine.nd rfl (Or.inl rfl)) (pgs_cons (pg_name (i:=4) scLine.nd rfl (Or.inl rfl)) pgs_nil)))
   (pss_one (ps_set (i:=2) scLine.nd rfl (Or.inl rfl) (pe_op op_add_str (pe_op op_add_str (pe_op op_add_str (pe_op op_add_str (pv 2) pe_str) (pv 3)) pe_str) (pv 4)))))
  (pss_one (ps_ret (pe_op op_add_str (pe_op op_add_str (pv 2) pe_str) (pv 1))))))),?_⟩
 have hb:=big
 cases t with
 | part n i=>exact absurd ⟨n,i,rfl⟩ hnp
 | say n ws =>
  obtain ⟨a,x,rfl,h1,b,rfl,h2⟩:=hv
  obtain ⟨l1,l2⟩:=rw_len hok
  refine ⟨rfl,_,rfl,1,rfl,a,_,_,_,rfl,rfl,SqT.of h1,rfl,_,b,ws,rfl,rfl,.inr (SqT.of h2),l2,?_⟩
  refine ⟨_,rfl,a,_,_,_,rfl,rfl,SqT.of h1,rfl,rfl,_,rfl,?_⟩
  refine ite2 (fun _=>?_) (fun z=>absurd (decide_eq_true rfl) z)
  have e4 : ("say " : Str).length = 4:=by decide +kernel
  refine ⟨_,rfl,_,_,rfl,rfl,by rw [e4]; omega,?_⟩
  exact q (by show ("say " ++ Str.join " " ws).length <= 5000; rw [len_app,e4]; omega) H (Same.refl H)
 | tell n sc ph bs ms =>
  obtain ⟨a,x,y,z,rfl,h1,⟨pa,rfl,h2⟩,⟨ba,bxs,rfl,h3,h4⟩,⟨ma,rfl,h5⟩⟩:=hv
  have hok : TlOk sc ph bs ms:=hok
  obtain ⟨l1,l2⟩:=rw_len hok.hms
  refine ⟨rfl,_,rfl,1,rfl,a,_,_,_,rfl,rfl,SqT.of h1,rfl,_,ma,ms,rfl,rfl,.inr (SqT.of h5),l2,?_⟩
  refine ⟨_,rfl,a,_,_,_,rfl,rfl,SqT.of h1,rfl,rfl,_,rfl,?_⟩
  refine ite2 (fun z=>absurd z (by show ¬ decide (V.str "tell" = V.str "say") = true; decide)) (fun _=>?_)
  have s4 : sc.length <= 4:=by
   have:=hok.hsc
   simp only [List.mem_cons,List.not_mem_nil,or_false] at this
   rcases this with rfl | rfl | rfl | rfl <;> decide +kernel
  have e1 : (" " : Str).length = 1:=by decide +kernel
  have e2 : (">" : Str).length = 1:=by decide +kernel
  have e3 : (": " : Str).length = 2:=by decide +kernel
  have e5 : ("tell " : Str).length = 5:=by decide +kernel
  have p20:=fun y hy=>(hok.hph y hy).2.1
  have j1:=join_len (z:=" ") (m:=20) (by rw [e1]; exact Nat.le_refl _) (ys:=ph) p20
  have j2:=sum_len (m:=20) (ys:=ph) p20
  have j4:=hok.hlen
  obtain ⟨wl,last,ep,hbok⟩:=hok.hbs
  have L20 : last.length <= 20:=p20 last (by rw [ep]; exact List.mem_append_right _ List.mem_cons_self)
  have j5:=hbok.len
  refine ⟨_,rfl,a,_,_,_,rfl,rfl,SqT.of h1,rfl,_,_,rfl,rfl,by rw [e5]; omega,_,_,rfl,rfl,by rw [len_app,e5,e1]; omega,rfl,_,rfl,a,_,_,_,rfl,rfl,SqT.of h1,rfl,_,pa,ph,rfl,rfl,.inr (SqT.of h2),by rw [e1]; omega,_,_,rfl,rfl,by rw [len_app,len_app,e5,e1]; omega,?_⟩
  refine ⟨_,rfl,a,_,_,_,rfl,rfl,SqT.of h1,rfl,ba,rfl,⟨_,SqT.of h3⟩,?_⟩
  refine for_tup (K:=K) (a:=ba) (xs:=bxs) (fun i σ' H'=>H' = H /\ ∃ u v : Option V,σ' = [some (.ref a),some (.str (Str.join " " ms)),some (.str (headOf sc ph (bs.take i))),u,v]) ⟨rfl,none,none,rfl⟩ (fun i σ' H' _ h=>by rw [h.1]; exact SqT.of h3) ?_ ?_
  ·rintro i v σ' H' hi ⟨rfl,u,v',rfl⟩
   obtain ⟨b,hbi,ca,rfl,hca⟩:=paired_get h4 hi
   have f:=hbok.fit b (List.mem_of_getElem? hbi)
   have hl:=head_len (cs':=bs.take i) hok (by rw [List.length_take]; omega) fun b hb=>List.mem_of_mem_take hb
   rw [List.length_take] at hl
   refine ⟨ca,_,rfl,SqT.of hca,rfl,_,_,rfl,_,_,rfl,rfl,?_⟩
   have en : headOf sc ph (bs.take (i + 1)) = addB (headOf sc ph (bs.take i)) b:=by
    unfold headOf
    rw [List.take_add_one,hbi,List.foldl_append] <;> rfl
   rw [en]
   exact ⟨_,rfl,_,_,rfl,rfl,by rw [e1]; omega,_,rfl,_,_,rfl,rfl,by rw [len_app,e1]; omega,_,_,rfl,rfl,by rw [len_app,len_app,e1,e2]; omega,_,rfl,_,_,rfl,rfl,by rw [len_app,len_app,len_app,e1,e2]; omega,rfl,_,_,rfl⟩
  ·rintro σ' H' ⟨rfl,u,v',rfl⟩
   have el : bxs.length = bs.length:=(paired_len h4).symm
   rw [el,List.take_length]
   have hl:=head_len (cs':=bs) hok (by omega) fun b hb=>hb
   refine ⟨_,rfl,_,_,rfl,rfl,by rw [e3]; omega,_,rfl,_,_,rfl,rfl,by rw [len_app,e3]; omega,?_⟩
   exact q (by show (headOf sc ph bs ++ ": " ++ Str.join " " ms).length <= 5000; rw [len_app,len_app,e3]; omega) H' (Same.refl H')
end
end D
namespace D
open PySem L2
def knd : Th -> Str
 | .say _ _=>"say"
 | .tell _ _ _ _ _=>"tell"
 | .part _ _=>"part"
theorem thR_head {H : Hp} {t : Th} {v : V} (h : thR H t v) : ∃ a xs,v = .ref a /\ H a = some (.tup xs) /\ atI xs 0 = some (.str (knd t)) /\ atI xs 1 = some (.int t.num):=by
 cases t with
 | say n ws =>
  obtain ⟨a,x,e,q,_⟩:=h
  exact ⟨a,_,e,q,rfl,rfl⟩
 | tell n sc ph bs ms =>
  obtain ⟨a,x,y,z,e,q,_⟩:=h
  exact ⟨a,_,e,q,rfl,rfl⟩
 | part n i =>
  obtain ⟨a,b,zs,e,q,_⟩:=h
  exact ⟨a,_,e,q,rfl,rfl⟩
theorem knd_part (t : Th) : decide (V.str (knd t) = V.str "part") = true ↔ ∃ n i,t = .part n i:=by
 cases t with
 | say n ws=>exact ⟨fun z=>absurd z (by show ¬ decide (V.str "say" = V.str "part") = true; decide),fun ⟨_,_,e⟩=>nomatch e⟩
 | tell n sc ph bs ms=>exact ⟨fun z=>absurd z (by show ¬ decide (V.str "tell" = V.str "part") = true; decide),fun ⟨_,_,e⟩=>nomatch e⟩
 | part n i=>exact ⟨fun _=>⟨n,i,rfl⟩,fun _=>decide_eq_true rfl⟩
theorem seq0 (x : V) (r : List V) : seqIndex? 0 (x :: r).length = some 0:=by
 unfold seqIndex?
 simp
end D
namespace D
open PySem L2
theorem line_len {t : Th} (h : TOk t) (hn : ¬ ∃ n i,t = .part n i) : (lineOf t).length <= 5000:=by
 cases t with
 | part n i=>exact absurd ⟨n,i,rfl⟩ hn
 | say n ws =>
  obtain ⟨l1,_⟩:=rw_len h
  have e4 : ("say " : Str).length = 4:=by decide +kernel
  show ("say " ++ Str.join " " ws).length <= 5000
  rw [len_app,e4]
  omega
 | tell n sc ph bs ms =>
  have h : TlOk sc ph bs ms:=h
  obtain ⟨l1,_⟩:=rw_len h.hms
  obtain ⟨_,_,_,hb⟩:=h.hbs
  have h5:=hb.len
  have hl:=head_len (cs':=bs) h h5 fun b hb=>hb
  have e3 : (": " : Str).length = 2:=by decide +kernel
  show (headOf sc ph bs ++ ": " ++ Str.join " " ms).length <= 5000
  rw [len_app,len_app,e3]
  omega
theorem lines_ok : ∀ (f : F),(∀ t ∈ f.ord,TOk t) -> ∀ x ∈ linesF f,x.length <= 5000
 | .nil,_,_,h=>nomatch h
 | .say n ws r,ho,x,h=>by
  rcases List.mem_cons.mp h with e | e
  ·rw [e]; exact line_len (ho _ List.mem_cons_self) (fun ⟨_,_,z⟩=>nomatch z)
  ·exact lines_ok r (fun t ht=>ho t (List.mem_cons_of_mem _ ht)) x e
 | .tell n sc ph bs ms r,ho,x,h=>by
  rcases List.mem_cons.mp h with e | e
  ·rw [e]; exact line_len (ho _ List.mem_cons_self) (fun ⟨_,_,z⟩=>nomatch z)
  ·exact lines_ok r (fun t ht=>ho t (List.mem_cons_of_mem _ ht)) x e
 | .part n i r,ho,x,h=>by
  rcases List.mem_cons.mp h with e | e
  ·rw [e]; decide +kernel
  ·rcases List.mem_append.mp e with e | e
   ·exact lines_ok i (fun t ht=>ho t (List.mem_cons_of_mem _ (List.mem_append_left _ ht))) x e
   ·rcases List.mem_cons.mp e with e | e
    ·rw [e]; decide +kernel
    ·exact lines_ok r (fun t ht=>ho t (List.mem_cons_of_mem _ (List.mem_append_right _ ht))) x e
theorem lines_len : ∀ (f : F),(linesF f).length <= 2 * f.ord.length
 | .nil=>Nat.le_refl _
 | .say n ws r=>by
  have:=lines_len r
  show (linesF r).length + 1 <= 2 * (r.ord.length + 1)
  omega
 | .tell n sc ph bs ms r=>by
  have:=lines_len r
  show (linesF r).length + 1 <= 2 * (r.ord.length + 1)
  omega
 | .part n i r=>by
  have h1:=lines_len i
  have h2:=lines_len r
  show (linesF i ++ (("end" : Str) :: linesF r)).length + 1 <= 2 * ((i.ord ++ r.ord).length + 1)
  rw [List.length_append,List.length_append,List.length_cons]
  omega
def lnO : Option Th -> List Str
 | none=>["end"]
 | some (.part _ i)=>("part" : Str) :: (linesF i ++ [("end" : Str)])
 | some t=>[lineOf t]
theorem lines_flat : ∀ f : F,linesF f = (f.ths.map some).flatMap lnO
 | .nil=>rfl
 | .say n ws r=>by
  show lineOf (.say n ws) :: linesF r = _
  rw [lines_flat r] <;> rfl
 | .tell n sc ph bs ms r=>by
  show lineOf (.tell n sc ph bs ms) :: linesF r = _
  rw [lines_flat r] <;> rfl
 | .part n i r=>by
  show ("part" : Str) :: (linesF i ++ (("end" : Str) :: linesF r)) = (("part" : Str) :: (linesF i ++ [("end" : Str)])) ++ (r.ths.map some).flatMap lnO
  rw [<- lines_flat r,List.cons_append,List.append_assoc] <;> rfl
def oR (H : Hp) : Option Th -> V -> Prop
 | none,v=>v = .non
 | some t,v=>thR H t v
theorem oR_mono {H H' : Hp} (g : TSame H H') : ∀ {o : Option Th} {v : V},oR H o v -> oR H' o v
 | none,_,h=>h
 | some _,_,h=>thR.mono h g
abbrev osR (H : Hp) : List (Option Th) -> List V -> Prop:=Paired (oR H)
theorem osR_mono {H H' : Hp} {ts : List (Option Th)} {xs : List V} (h : osR H ts xs) (g : TSame H H') : osR H' ts xs:=Paired.mapP h fun _ _ z=>oR_mono g z
theorem osR_some {H : Hp} : ∀ {ts : List Th} {xs : List V},thsR H ts xs -> osR H (ts.map some) xs
 | _,_,.nil=>.nil
 | _ :: _,_ :: _,.cons q r=>.cons q (osR_some r)
def okO : Option Th -> Prop
 | none=>True
 | some t=>∀ s ∈ t.ord,TOk s
theorem lnO_pos (o : Option Th) : 1 <= (lnO o).length:=by
 cases o with
 | none=>exact Nat.le_refl _
 | some t=>cases t <;> simp [lnO]
theorem ln_len (ts : List (Option Th)) : ts.length <= (ts.flatMap lnO).length:=by
 induction ts with
 | nil=>exact Nat.le_refl _
 | cons x r ih =>
  rw [List.flatMap_cons,List.length_append,List.length_cons]
  have:=lnO_pos x
  omega
def spLines : Sp:=fun vs H Q _=>∃ (v : V) (n : Int) (f : F),vs = [v] /\ partR H n f v /\ f.ord.length <= 1000 /\ (∀ t ∈ f.ord,TOk t) /\ ∀ r H',Same H H' -> H' r = some (.lst ((linesF f).map V.str)) -> Q (.ref r) H'
section
variable {P : Program} {w : World} {K : PySem.W.Frag} {mg : Str -> Option Value} {base : Heap} {f : Addr} {fd : FuncData}
theorem scLines : FnScope ["_law_doc","_law_lines_here","_law_left","_law_thing_here"] ["_law_doc"] (defScope s_l_lines):=⟨rfl,rfl,rfl,by decide +kernel,rfl,by decide +kernel,by decide +kernel⟩
set_option maxHeartbeats 8000000 in
theorem ok_lines (F : Fun K "_law_lines" "_law_lines" s_l_lines f fd) (T : Nm mg) (GL : Def P w K mg base CX0 1 "_law_line" ["_law_thing_here"] spLine) : FnOk P w K mg base CX0 2 f fd ["_law_doc"] spLines:=by
 refine F.ok scLines (fun vs H Q E h=>?_) (fun cdv A outer s H vs Q E hr h=>?_)
 ·obtain ⟨v,n,fo,rfl,_⟩:=h
  rfl
 obtain ⟨v,n,fo,rfl,hv,hlen,hok,q⟩:=h
 refine ⟨_,pss_cons (ps_set (i:=1) scLines.nd rfl (Or.inl rfl) (pe_lst pa_nil))
  (pss_cons (ps_set (i:=2) scLines.nd rfl (Or.inl rfl) (pe_callTy call_list_of rfl T.list PyProof.Rows.boot_list (pa_cons (pe_ix ix_tup (pv 0) pe_int (fun _ _=>rfl)) pa_nil)))
  (pss_cons (ps_while PassesOwn.never (pt_cmpR (op_neNil hr.units0) (pv 2) (pe_lst pa_nil) (nomark _))
   (pss_cons (ps_set (i:=3) scLines.nd rfl (Or.inl rfl) (pe_bm PySem.F.plainAttrs_list PySem.F.slot_list_pop PySem.F.type_list_pop mt_popAt (pv 2) (pa_cons pe_int pa_nil)))
   (pss_one (ps_if (pt_cmpR op_isN (pv 3) pe_non (nomark _))
    (pss_one (ps_expr (pe_bm PySem.F.plainAttrs_list PySem.F.slot_list_append PySem.F.type_list_append mt_append (pv 1) (pa_cons pe_str pa_nil))))
    (pss_one (ps_if (pt_cmpR op_eq (pe_ix ix_tup (pv 3) pe_int (fun _ _=>rfl)) pe_str (nomark _))
     (pss_cons (ps_expr (pe_bm PySem.F.plainAttrs_list PySem.F.slot_list_append PySem.F.type_list_append mt_append (pv 1) (pa_cons pe_str pa_nil)))
     (pss_one (ps_set (i:=2) scLines.nd rfl (Or.inl rfl) (pe_op op_cat (pe_op op_cat (pe_callTy call_list_of rfl T.list PyProof.Rows.boot_list (pa_cons (pe_ix ix_tup (pv 3) pe_int (fun _ _=>rfl)) pa_nil)) (pe_lst (pa_cons pe_non pa_nil))) (pv 2)))))
     (pss_one (ps_expr (pe_bm PySem.F.plainAttrs_list PySem.F.slot_list_append PySem.F.type_list_append mt_append (pv 1) (pa_cons (pe_def GL hr (pa_cons (pv 3) pa_nil)) pa_nil))))))))))
  (pss_one (ps_ret (pv 1))))),?_⟩
 have hb:=big
 obtain ⟨da,db,zs,rfl,h1,h2,h3⟩:=hv
 have hll:=lines_len fo
 refine ⟨(by show 0 <= sizeLine; decide),fun p hp=>?_⟩
 have g1:=same_new hp (.lst [])
 have e1 : upd H p (.lst []) p = some (.lst []):=upd_same
 generalize upd H p (.lst []) = H1 at g1 e1 ⊢
 refine ⟨_,rfl,da,_,_,_,rfl,rfl,SqT.of (g1 _ _ h1),rfl,db,_,rfl,.inr (SqT.of (g1 _ _ h2)),fun l0 hl0=>?_⟩
 have g2:=same_new hl0 (.lst zs)
 have e2 : upd H1 l0 (.lst zs) l0 = some (.lst zs):=upd_same
 have p2 : upd H1 l0 (.lst zs) p = some (.lst []):=g2 _ _ e1
 have n2 : p ≠ l0:=ne_of_none e1 hl0
 generalize upd H1 l0 (.lst zs) = H2 at g2 e2 p2 ⊢
 refine ⟨fun m σ' H'=>∃ (l : Addr) (ys : List V) (dn : List Str) (lt : List (Option Th)) (u : Option V),σ' = [some (.ref da),some (.ref p),some (.ref l),u] /\ Same H H' /\ p ≠ l /\ H l = none /\ H' p = some (.lst (dn.map V.str)) /\ H' l = some (.lst ys) /\ osR H' lt ys /\ (∀ o ∈ lt,okO o) /\ dn ++ lt.flatMap lnO = linesF fo /\ (lt.flatMap lnO).length = m,
  ⟨_,l0,zs,[],fo.ths.map some,none,rfl,g1.trans g2,n2,g1.free hl0,p2,e2,osR_some (fR_iff.mp (fR_mono (g1.trans g2).t h3)),?_,(lines_flat fo).symm,rfl⟩,?_⟩
 ·intro o ho
  obtain ⟨t,ht,rfl⟩:=List.mem_map.mp ho
  intro s hs
  refine hok s ?_
  rw [ord_flat]
  exact List.mem_flatMap.mpr ⟨t,ht,hs⟩
 rintro m σ' H' ⟨l,ys,dn,lt,u,rfl,g,npl,hl,hp',hl',hlt,hoo,he,hm⟩
 refine ⟨_,rfl,(by show 0 <= sizeLine; decide),fun r0 hr0=>?_⟩
 have gA:=same_new hr0 (.lst [])
 have e3 : upd H' r0 (.lst []) r0 = some (.lst []):=upd_same
 refine ⟨l,r0,ys,rfl,rfl,SqL.of (gA _ _ hl'),SqL.of e3,_,rfl,?_⟩
 generalize upd H' r0 (.lst []) = H3 at gA e3 ⊢
 have hp3:=gA _ _ hp'
 have hl3:=gA _ _ hl'
 have hlt3:=osR_mono hlt gA.t
 have gH:=g.trans gA
 cases hlt with
 | nil =>
  refine iteF ⟨_,rfl,?_⟩
  have he' : dn = linesF fo:=by rw [<- he]; simp
  rw [he'] at hp3
  exact q p H3 gH hp3
 | cons q1 q2 =>
  rename_i o y lr yr
  cases hlt3 with
  | cons k1 k2 =>
   refine iteT ⟨fun σ' H'=>∃ m',m' < m /\ ∃ (l : Addr) (ys : List V) (dn : List Str) (lt : List (Option Th)) (u : Option V),σ' = [some (.ref da),some (.ref p),some (.ref l),u] /\ Same H H' /\ p ≠ l /\ H l = none /\ H' p = some (.lst (dn.map V.str)) /\ H' l = some (.lst ys) /\ osR H' lt ys /\ (∀ o ∈ lt,okO o) /\ dn ++ lt.flatMap lnO = linesF fo /\ (lt.flatMap lnO).length = m',fun _ _ h=>h,?_⟩
   have hsz : dn.length + m = (linesF fo).length:=by rw [<- he,List.length_append,hm]
   have hor : ∀ o ∈ lr,okO o:=fun z hz=>hoo z (List.mem_cons_of_mem _ hz)
   have ho1:=hoo o List.mem_cons_self
   rw [List.flatMap_cons] at he hm
   refine ⟨_,rfl,.inl ⟨rfl,_,SqL.of hl3⟩,l,_,0,0,_,rfl,rfl,hl3,by decide,by decide,seq0 _ _,rfl,?_⟩
   have gB : TSame H3 (upd H3 l (.lst yr)):=TSame.lst hl3
   have kB : Same H (upd H3 l (.lst yr)):=keep_upd hl gH _
   have e4 : upd H3 l (.lst yr) l = some (.lst yr):=upd_same
   have p4 : upd H3 l (.lst yr) p = some (.lst (dn.map V.str)):=by rw [upd_ne npl]; exact hp3
   show gName 3 _ _ (upd H3 l (.lst yr)) _
   generalize upd H3 l (.lst yr) = H4 at gB kB e4 p4 ⊢
   have t4:=oR_mono gB k1
   have r4 : osR H4 lr yr:=osR_mono k2 gB
   have app : ∀ (x : Str) (H5 : Hp),Same H4 H5 -> ∀ {R : Hp -> Prop},(∀ H6,TSame H5 H6 -> Same H H6 -> H6 p = some (.lst ((dn ++ [x]).map V.str)) -> H6 l = some (.lst yr) -> R H6) -> R (upd H5 p (.lst (dn.map V.str ++ [.str x]))):=by
    intro x H5 k5 R h
    refine h _ (TSame.lst (k5 _ _ p4)) (keep_upd hp (kB.trans k5) _) (by rw [upd_same,List.map_append] <;> rfl) (by rw [upd_ne npl.symm]; exact k5 _ _ e4)
   have dsz : (dn.map V.str).length < sizeLine:=by rw [List.length_map]; omega
   cases o with
   | none =>
    have t4 : y = .non:=t4
    subst t4
    refine ⟨_,rfl,rfl,_,rfl,?_⟩
    refine ite2 (fun _=>?_) (fun z=>absurd (decide_eq_true rfl) z)
    refine ⟨_,rfl,.inl ⟨rfl,_,SqL.of p4⟩,p,_,_,rfl,rfl,p4,dsz,?_⟩
    refine app "end" H4 (Same.refl _) (R:=fun H6=>_) fun H6 t6 s6 p6 l6=>?_
    refine ⟨(lr.flatMap lnO).length,?_,l,yr,dn ++ [("end" : Str)],lr,_,rfl,s6,npl,hl,p6,l6,osR_mono r4 t6,hor,?_,rfl⟩
    ·rw [<- hm,List.length_append]
     show _ < 1 + _
     omega
    ·rw [List.append_assoc]
     exact he
   | some t =>
    have t4 : thR H4 t y:=t4
    obtain ⟨ya,yxs,rfl,hya,hk0,_⟩:=thR_head t4
    refine ⟨_,rfl,rfl,_,rfl,?_⟩
    refine ite2 (fun z=>absurd (of_decide_eq_true z) (by intro z; cases z)) (fun _=>?_)
    refine ⟨_,rfl,ya,_,_,_,rfl,rfl,SqT.of hya,hk0,rfl,_,rfl,?_⟩
    refine ite2 (fun d=>?_) (fun d=>?_)
    ·obtain ⟨pn,pi,rfl⟩:=(knd_part t).mp d
     obtain ⟨pa,pb,pz,ea,w1,w2,w3⟩:=t4
     cases ea
     refine ⟨_,rfl,.inl ⟨rfl,_,SqL.of p4⟩,p,_,_,rfl,rfl,p4,dsz,?_⟩
     refine app "part" H4 (Same.refl _) (R:=fun H6=>_) fun H6 t6 s6 p6 l6=>?_
     have w1':=t6 _ _ w1
     have w2':=t6 _ _ w2
     have r6:=osR_mono r4 t6
     have w3' : osR H6 (pi.ths.map some) pz:=osR_some (thsR.mono (fR_iff.mp w3) t6)
     refine ⟨_,rfl,ya,_,_,_,rfl,rfl,SqT.of w1',rfl,pb,_,rfl,.inr (SqT.of w2'),fun l7 hl7=>?_⟩
     have g7:=same_new hl7 (.lst pz)
     refine ⟨(by show 1 <= sizeLine; decide),fun l8 hl8=>?_⟩
     have g8:=same_new hl8 (.lst [.non])
     have z1 : pz.length = pi.ths.length:=by have:=paired_len w3'; rw [List.length_map] at this; exact this.symm
     have z2 : yr.length = lr.length:=(paired_len r6).symm
     have z3:=ln_len (pi.ths.map some ++ [none] ++ lr)
     have z4 : (pi.ths.map some ++ [none] ++ lr).flatMap lnO = linesF pi ++ [("end" : Str)] ++ lr.flatMap lnO:=by
      rw [List.flatMap_append,List.flatMap_append,<- lines_flat] <;> rfl
     have hm' : (("part" : Str) :: (linesF pi ++ [("end" : Str)]) ++ lr.flatMap lnO).length = m:=by rw [<- hm,List.length_append,List.length_append] <;> rfl
     rw [z4,List.length_append,List.length_append,List.length_append,List.length_append,List.length_map] at z3
     rw [List.length_append,List.length_cons,List.length_append] at hm'
     have q0 : ([none] : List (Option Th)).length = 1:=rfl
     have q1' : ([("end" : Str)] : List Str).length = 1:=rfl
     have qn : ([.non] : List V).length = 1:=rfl
     refine ⟨l7,l8,_,_,rfl,rfl,g8 _ _ upd_same,upd_same,by omega,fun l9 hl9=>?_⟩
     have g9:=same_new hl9 (.lst (pz ++ [.non]))
     have l6':=g9 _ _ (g8 _ _ (g7 _ _ l6))
     refine ⟨_,rfl,l9,l,_,_,rfl,rfl,upd_same,l6',by rw [List.length_append]; omega,fun lA hlA=>?_⟩
     have gA':=same_new hlA (.lst (pz ++ [.non] ++ yr))
     have gz:=((g7.trans g8).trans g9).trans gA'
     refine ⟨(linesF pi ++ [("end" : Str)] ++ lr.flatMap lnO).length,by rw [List.length_append,List.length_append]; omega,lA,pz ++ [.non] ++ yr,dn ++ [("part" : Str)],pi.ths.map some ++ [none] ++ lr,_,rfl,s6.trans gz,ne_of_none ((g7.trans g8).trans g9 _ _ p6) hlA,(s6.trans ((g7.trans g8).trans g9)).free hlA,gz _ _ p6,upd_same,paired_app (paired_app (osR_mono w3' gz.t) (.cons (show oR _ none .non from rfl) .nil)) (osR_mono r6 gz.t),fun o ho=>?_,?_,by rw [z4]⟩
     ·rcases List.mem_append.mp ho with z | z
      ·rcases List.mem_append.mp z with z | z
       ·obtain ⟨t',ht',rfl⟩:=List.mem_map.mp z
        intro s hs
        refine ho1 s (List.mem_cons_of_mem _ ?_)
        show s ∈ pi.ord
        rw [ord_flat]
        exact List.mem_flatMap.mpr ⟨t',ht',hs⟩
       ·rw [List.mem_singleton.mp z]; trivial
      ·exact hor o z
     ·rw [z4,<- he,List.append_assoc] <;> simp [lnO]
    ·have hnp : ¬ ∃ n i,t = .part n i:=fun z=>d ((knd_part t).mpr z)
     have eln : lnO (some t) = [lineOf t]:=by
      cases t with
      | part n i=>exact absurd ⟨n,i,rfl⟩ hnp
      | say n ws=>rfl
      | tell n sc ph bs ms=>rfl
     rw [eln] at he hm
     refine ⟨_,rfl,.inl ⟨rfl,_,SqL.of p4⟩,_,rfl,t,_,rfl,t4,ho1 t List.mem_cons_self,hnp,fun _ H5 k5=>?_⟩
     refine ⟨p,_,_,rfl,rfl,k5 _ _ p4,dsz,?_⟩
     refine app (lineOf t) H5 k5 (R:=fun H6=>_) fun H6 t6 s6 p6 l6=>?_
     refine ⟨(lr.flatMap lnO).length,?_,l,yr,dn ++ [lineOf t],lr,_,rfl,s6,npl,hl,p6,l6,osR_mono r4 (k5.t.trans t6),hor,?_,rfl⟩
     ·rw [<- hm,List.length_append]
      show _ < 1 + _
      omega
     ·rw [List.append_assoc]
      exact he
end
end D
namespace D
open PySem L2
structure WrOk (f : F) : Prop where
 dep : f.dep <= 10
 len : f.ord.length <= 200
 ok : ∀ t ∈ f.ord,TOk t
theorem WrOk.join {f : F} (h : WrOk f) : ((linesF f).map (·.length)).sum + (linesF f).length * ("\n" : Str).length <= 16777216:=by
 have e1 : ("\n" : Str).length = 1:=by decide +kernel
 have a:=sum_len (m:=5000) (ys:=linesF f) (lines_ok f h.ok)
 have b:=lines_len f
 have c:=h.len
 rw [e1]
 omega
def spWritten : Sp:=fun vs H Q _=>∃ (v : V) (f : F),vs = [v] /\ partR H 0 f v /\ WrOk f /\ ∀ H',Same H H' -> Q (.str (textF f)) H'
end D
namespace D
open PySem L2
theorem fnok_false {P : Program} {w : World} {K : PySem.W.Frag} {mg : Str -> Option Value} {base : Heap} {CX : CXT} {k : Nat} {f : Addr} {fd : FuncData} {ps : List Str} {sp : Sp} (h : ∀ vs H Q E,¬ sp vs H Q E) : FnOk P w K mg base CX k f fd ps sp :=
 ⟨fun vs H Q E z=>absurd z (h vs H Q E),fun _ _ _ H _ _ vs Q E _ _ _ _ z=>absurd z (h vs H Q E)⟩
def spText (K : PySem.W.Frag) : Sp:=fun vs H Q _=>∃ (a : Addr) (ws : List Str),vs = [.ref a] /\ (SqL K H a (ws.map V.str) ∨ SqT K H a (ws.map V.str)) /\ (ws.map (·.length)).sum + ws.length * (" " : Str).length <= 16777216 /\ Q (.str (Str.join " " ws)) H
def bT (b : Str × Str) : Str:=glue Str.empty [" ",b.1,">",b.2]
theorem cs_glue : ∀ (ys : List Str) (acc : Str),cs (glue acc ys) = cs acc ++ (ys.map cs).flatten
 | [],acc=>by show _ = cs acc ++ []; rw [List.append_nil] <;> rfl
 | y :: r,acc=>by
  show cs (glue (acc ++ y) r) = _
  rw [cs_glue r,cs_app,List.append_assoc] <;> rfl
theorem cs_joinE : ∀ ys : List Str,cs (Str.join "" ys) = (ys.map cs).flatten
 | []=>rfl
 | [y]=>by show cs y = cs y ++ []; rw [List.append_nil]
 | y :: y2 :: r=>by
  rw [cs_join2,cs_joinE (y2 :: r)]
  show cs y ++ (cs "" ++ _) = cs y ++ _
  have e : cs ("" : Str) = []:=by decide +kernel
  rw [e,List.nil_append]
theorem fold_addB (bs : List (Str × Str)) : ∀ x : Str,bs.foldl addB x = x ++ Str.join "" (bs.map bT):=by
 induction bs with
 | nil =>
  intro x
  refine str_ext ?_
  rw [cs_app,cs_joinE]
  show cs x = cs x ++ []
  rw [List.append_nil]
 | cons b r ih =>
  intro x
  rw [List.foldl_cons,ih]
  refine str_ext ?_
  have e : cs (bT b) = cs " " ++ (cs b.1 ++ (cs ">" ++ cs b.2)):=by
   unfold bT
   rw [cs_glue]
   show [] ++ (cs " " ++ (cs b.1 ++ (cs ">" ++ (cs b.2 ++ [])))) = _
   rw [List.append_nil,List.nil_append]
  rw [cs_app,cs_app,cs_joinE,cs_joinE,List.map_cons,List.map_cons,List.flatten_cons,e]
  unfold addB
  rw [cs_app,cs_app,cs_app,cs_app]
  simp only [List.append_assoc]
theorem head_join (sc : Str) (ph : List Str) (bs : List (Str × Str)) : headOf sc ph bs = "tell " ++ sc ++ " " ++ Str.join " " ph ++ Str.join "" (bs.map bT):=fold_addB bs _
theorem bT_len (b : Str × Str) : (bT b).length = 2 + b.1.length + b.2.length:=by
 unfold bT
 rw [glue_len]
 have e0 : Str.empty.length = 0:=rfl
 have e1 : (" " : Str).length = 1:=by decide +kernel
 have e2 : (">" : Str).length = 1:=by decide +kernel
 simp only [List.map_cons,List.map_nil,List.sum_cons,List.sum_nil,e0,e1,e2]
 omega
theorem joinE_len {m : Nat} {ys : List Str} (h : ∀ y ∈ ys,y.length <= m) : (Str.join "" ys).length <= m * ys.length:=by
 rw [<- cs_len,cs_joinE]
 induction ys with
 | nil=>exact Nat.zero_le _
 | cons y r ih =>
  have a:=h y List.mem_cons_self
  have b:=ih fun z hz=>h z (List.mem_cons_of_mem _ hz)
  rw [List.map_cons,List.flatten_cons,List.length_append,cs_len,List.length_cons,Nat.mul_add]
  omega
theorem compP_tup {K : PySem.W.Frag} {n : Nat} {a : Addr} {xs : List V} {gt : TG} {te : TE} {fin : List V -> Hp -> Prop} {σ : St} {H : Hp} (Pv : Nat -> List V -> Hp -> Prop) (hz : xs.length <= sizeLine) (h0 : Pv 0 [] H) (hl : ∀ i ys H,i <= xs.length -> Pv i ys H -> SqT K H a xs /\ ys.length <= i)
  (hs : ∀ i x ys H,xs[i]? = some x -> Pv i ys H -> ∀ us : St,us.length = n -> ∀ (KY : V -> Hp -> Prop),(∀ y H3,Pv (i + 1) (ys ++ [y]) H3 -> KY y H3) -> gt x (σ ++ us) H fun σ2 H2=>∃ us' : St,us'.length = n /\ σ2 = σ ++ us' /\ te σ2 H2 KY)
  (hd : ∀ ys H,Pv xs.length ys H -> fin ys H) : CompRdP n (Itt K a) gt te fin σ H:=by
 refine ⟨fun i m ys H=>m = xs.length - i /\ i <= xs.length /\ Pv i ys H,⟨xs.length,by simp,Nat.zero_le _,h0⟩,?_⟩
 rintro i m ys H ⟨rfl,hi,p⟩
 obtain ⟨q,hy⟩:=hl i ys H hi p
 by_cases hlt : i < xs.length
 ·refine .inr ⟨⟨xs,xs[i],q,by simp [hlt]⟩,fun x H' y us lus=>?_⟩
  obtain ⟨e,y⟩:=y
  subst e
  exact hs i x ys _ (y xs q) p us lus _ fun z H3 p3=>⟨by omega,xs.length - (i + 1),by omega,rfl,hlt,p3⟩
 ·have e : i = xs.length:=by omega
  subst e
  exact .inl ⟨⟨xs,q,Nat.le_refl _⟩,hd ys H p⟩
def spTRow : Sp:=fun vs H Q _=>∃ (n : Int) (sc : Str) (ph : List Str) (bs : List (Str × Str)) (ms : List Str) (v : V),vs = [v] /\ tellR H n sc ph bs ms v /\ TlOk sc ph bs ms /\ ((lineOf (.tell n sc ph bs ms)).length <= 5000 -> ∀ H',Same H H' -> Q (.str (lineOf (.tell n sc ph bs ms))) H')
section
variable {P : Program} {w : World} {K : PySem.W.Frag} {mg : Str -> Option Value} {base : Heap} {f : Addr} {fd : FuncData}
theorem scText : FnScope ["words"] ["words"] (defScope s_text_of):=⟨rfl,rfl,rfl,by decide +kernel,rfl,by decide +kernel,by decide +kernel⟩
theorem ok_text (F : Fun K "text_of" "text_of" s_text_of f fd) : FnOk P w K mg base CX0 1 f fd ["words"] (spText K):=by
 refine F.ok scText (fun vs H Q E h=>?_) (fun cdv A outer s H vs Q E hr h=>?_)
 ·obtain ⟨a,ws,rfl,_⟩:=h
  rfl
 obtain ⟨a,ws,rfl,hs,hl,q⟩:=h
 refine ⟨_,pss_one (ps_ret (pe_bm PySem.F.plainAttrs_str PySem.F.slot_str_join PySem.F.type_str_join mt_join pe_str (pa_cons (pv 0) pa_nil))),?_⟩
 exact ⟨rfl,_,rfl,_,a,ws,rfl,rfl,hs,hl,q⟩
abbrev NTR : List Str:=["telling","bends","head"]
theorem scTRow : FnScope NTR ["telling"] (defScope s_telling_row):=⟨rfl,rfl,rfl,by decide +kernel,rfl,by decide +kernel,by decide +kernel⟩
set_option maxHeartbeats 8000000 in
theorem ok_trow (F : Fun K "telling_row" "telling_row" s_telling_row f fd) (GT : Def P w K mg base CX0 1 "text_of" ["words"] (spText K)) : FnOk P w K mg base CX0 2 f fd ["telling"] spTRow:=by
 refine F.ok scTRow (fun vs H Q E h=>?_) (fun cdv A outer s H vs Q E hr h=>?_)
 ·obtain ⟨n,sc,ph,bs,ms,v,rfl,_⟩:=h
  rfl
 obtain ⟨n,sc,ph,bs,ms,v,rfl,hv,hok,q⟩:=h
 refine ⟨_,pss_cons (ps_setcompP (i:=1) NTR (defScope s_telling_row) rfl (by decide +kernel) (by decide +kernel) (pi_tup (pe_ix ix_tup (pv 0) pe_int (fun _ _=>rfl))) (fun _ _ _ _ _=>pe_fstrV (pxs_cons px_const (pxs_cons (px_str (pv 3)) (pxs_cons px_const (pxs_cons (px_str (pv 4)) pxs_nil))))) rfl (Or.inl rfl))
  (pss_cons (ps_set (i:=2) scTRow.nd rfl (Or.inl rfl) (pe_op op_add_str (pe_op op_add_str (pe_op op_add_str (pe_op op_add_str pe_str (pe_ix ix_tup (pv 0) pe_int (fun _ _=>rfl))) pe_str) (pe_def GT hr (pa_cons (pe_ix ix_tup (pv 0) pe_int (fun _ _=>rfl)) pa_nil))) (pe_bm PySem.F.plainAttrs_str PySem.F.slot_str_join PySem.F.type_str_join mt_join pe_str (pa_cons (pv 1) pa_nil))))
  (pss_one (ps_ret (pe_op op_add_str (pe_op op_add_str (pv 2) pe_str) (pe_def GT hr (pa_cons (pe_ix ix_tup (pv 0) pe_int (fun _ _=>rfl)) pa_nil)))))),?_⟩
 have hb:=big
 obtain ⟨a,x,y,z,rfl,h1,⟨pa,rfl,h2⟩,⟨ba,bxs,rfl,h3,h4⟩,⟨ma,rfl,h5⟩⟩:=hv
 obtain ⟨l1,l2⟩:=rw_len hok.hms
 have s4 : sc.length <= 4:=by
  have:=hok.hsc
  simp only [List.mem_cons,List.not_mem_nil,or_false] at this
  rcases this with rfl | rfl | rfl | rfl <;> decide +kernel
 have e0 : ("" : Str).length = 0:=by decide +kernel
 have e1 : (" " : Str).length = 1:=by decide +kernel
 have e2 : (">" : Str).length = 1:=by decide +kernel
 have e3 : (": " : Str).length = 2:=by decide +kernel
 have e5 : ("tell " : Str).length = 5:=by decide +kernel
 have p20:=fun y hy=>(hok.hph y hy).2.1
 have j1:=join_len (z:=" ") (m:=20) (by rw [e1]; exact Nat.le_refl _) (ys:=ph) p20
 have j2:=sum_len (m:=20) (ys:=ph) p20
 have j4:=hok.hlen
 obtain ⟨wl,last,ep,hbok⟩:=hok.hbs
 have L20 : last.length <= 20:=p20 last (by rw [ep]; exact List.mem_append_right _ List.mem_cons_self)
 have j5:=hbok.len
 have b42 : ∀ y ∈ bs.map bT,y.length <= 42:=by
  intro y hy
  obtain ⟨b,hbm,rfl⟩:=List.mem_map.mp hy
  have f:=hbok.fit b hbm
  rw [bT_len]
  have:=f.2.2.1
  omega
 have el : bxs.length = bs.length:=(paired_len h4).symm
 refine ⟨_,rfl,a,_,_,_,rfl,rfl,SqT.of h1,rfl,ba,rfl,⟨_,SqT.of h3⟩,?_⟩
 refine compP_tup (K:=K) (n:=2) (a:=ba) (xs:=bxs) (fun i ys H'=>H' = H /\ ys = ((bs.take i).map bT).map V.str) (by omega) ⟨rfl,rfl⟩ (fun i ys H' hi h=>⟨by rw [h.1]; exact SqT.of h3,by rw [h.2,List.length_map,List.length_map,List.length_take]; omega⟩) ?_ ?_
 ·rintro i v ys H' hi ⟨rfl,rfl⟩ us lus KY hK
  obtain ⟨b,hbi,ca,rfl,hca⟩:=paired_get h4 hi
  have f:=hbok.fit b (List.mem_of_getElem? hbi)
  have f1 : b.1.length <= 20:=by omega
  have f2 : b.2.length <= 20:=f.2.2.1
  match us,lus with
  | [u1,u2],_ =>
   refine ⟨ca,_,rfl,SqT.of hca,rfl,_,_,rfl,_,_,rfl,rfl,[some (.str b.1),some (.str b.2)],rfl,rfl,?_⟩
   refine ⟨[" ",b.1,">",b.2],⟨_,_,rfl,rfl,_,_,rfl,⟨by omega,_,rfl,rfl,rfl⟩,_,_,rfl,rfl,_,_,rfl,⟨by omega,_,rfl,rfl,rfl⟩,rfl⟩,?_,fun _=>hK _ _ ⟨rfl,?_⟩⟩
   ·simp only [List.map_cons,List.map_nil,List.sum_cons,List.sum_nil,e1,e2]
    omega
   ·rw [List.take_add_one,hbi,List.map_append,List.map_append] <;> rfl
 ·rintro ys H' ⟨rfl,rfl⟩ l hl
  rw [el,List.take_length]
  have g1:=same_new hl (.lst ((bs.map bT).map V.str))
  have k1 : upd H' l (.lst ((bs.map bT).map V.str)) l = some (.lst ((bs.map bT).map V.str)):=upd_same
  show (tSeq _ _ : TS) _ _ (upd H' l (.lst ((bs.map bT).map V.str)))
  generalize upd H' l (.lst ((bs.map bT).map V.str)) = H1 at g1 k1 ⊢
  have b1:=joinE_len b42
  have b2:=sum_len b42
  rw [List.length_map] at b1 b2
  refine ⟨_,rfl,a,_,_,_,rfl,rfl,SqT.of (g1 _ _ h1),rfl,_,_,rfl,rfl,by rw [e5]; omega,_,_,rfl,rfl,by rw [len_app,e5,e1]; omega,_,rfl,a,_,_,_,rfl,rfl,SqT.of (g1 _ _ h1),rfl,pa,ph,rfl,.inr (SqT.of (g1 _ _ h2)),by rw [e1]; omega,_,_,rfl,rfl,by rw [len_app,len_app,e5,e1]; omega,rfl,_,rfl,_,l,bs.map bT,rfl,rfl,.inl (SqL.of k1),by rw [e0,List.length_map]; omega,_,_,rfl,rfl,by rw [len_app,len_app,len_app,e5,e1]; omega,?_⟩
  have hl2:=head_len (cs':=bs) hok (by omega) fun b hb=>hb
  rw [<- head_join]
  refine ⟨_,rfl,_,_,rfl,rfl,by rw [e3]; omega,_,rfl,a,_,_,_,rfl,rfl,SqT.of (g1 _ _ h1),rfl,ma,ms,rfl,.inr (SqT.of (g1 _ _ h5)),l2,_,_,rfl,rfl,by rw [len_app,e3]; omega,?_⟩
  exact q (by show (headOf sc ph bs ++ ": " ++ Str.join " " ms).length <= 5000; rw [len_app,len_app,e3]; omega) H1 g1
end
end D
namespace D
open PySem L2
def linesT : Th -> List Str
 | .say n ws=>[lineOf (.say n ws)]
 | .tell n sc ph bs ms=>[lineOf (.tell n sc ph bs ms)]
 | .part _ i=>("part" : Str) :: (linesF i ++ [("end" : Str)])
theorem lines_flatT : ∀ f : F,linesF f = f.ths.flatMap linesT
 | .nil=>rfl
 | .say n ws r=>by
  show lineOf (.say n ws) :: linesF r = _
  rw [lines_flatT r] <;> rfl
 | .tell n sc ph bs ms r=>by
  show lineOf (.tell n sc ph bs ms) :: linesF r = _
  rw [lines_flatT r] <;> rfl
 | .part n i r=>by
  show ("part" : Str) :: (linesF i ++ (("end" : Str) :: linesF r)) = (("part" : Str) :: (linesF i ++ [("end" : Str)])) ++ r.ths.flatMap linesT
  rw [lines_flatT r,List.cons_append,List.append_assoc] <;> rfl
theorem take_lines {f : F} {i : Nat} {t : Th} (h : f.ths[i]? = some t) : (f.ths.take (i + 1)).flatMap linesT = (f.ths.take i).flatMap linesT ++ linesT t:=by
 rw [List.take_add_one,h,List.flatMap_append]
 show _ ++ (linesT t ++ []) = _
 rw [List.append_nil]
theorem take_lines_le {f : F} (i : Nat) : ((f.ths.take i).flatMap linesT).length <= (linesF f).length:=by
 rw [lines_flatT]
 conv=>rhs; rw [<- List.take_append_drop i f.ths,List.flatMap_append,List.length_append]
 omega
theorem ord_of_mem {t s : Th} : ∀ {f : F},t ∈ f.ths -> s ∈ t.ord -> s ∈ f.ord:=fun {f} h hs=>by
 rw [ord_flat]
 exact List.mem_flatMap.mpr ⟨t,h,hs⟩
theorem sub_of_mem {t : Th} : ∀ {f : F},t ∈ f.ths -> t.sub.dep + 1 <= f.dep ∨ ¬ ∃ n i,t = .part n i
 | .say n ws r,h=>by
  rcases List.mem_cons.mp h with e | e
  ·exact .inr (fun ⟨_,_,z⟩=>by rw [e] at z; cases z)
  ·exact sub_of_mem (f:=r) e
 | .tell n sc ph bs ms r,h=>by
  rcases List.mem_cons.mp h with e | e
  ·exact .inr (fun ⟨_,_,z⟩=>by rw [e] at z; cases z)
  ·exact sub_of_mem (f:=r) e
 | .part n i r,h=>by
  rcases List.mem_cons.mp h with e | e
  ·subst e
   exact .inl (by show i.dep + 1 <= max (i.dep + 1) r.dep; omega)
  ·rcases sub_of_mem (f:=r) e with z | z
   ·exact .inl (by show _ <= max (i.dep + 1) r.dep; omega)
   ·exact .inr z
def spRows (d : Nat) : Sp:=fun vs H Q _=>∃ (v : V) (n : Int) (f : F),vs = [v] /\ partR H n f v /\ f.dep < d /\ f.ord.length <= 200 /\ (∀ t ∈ f.ord,TOk t) /\ ∀ r H',Same H H' -> H r = none -> H' r = some (.lst ((linesF f).map V.str)) -> Q (.ref r) H'
section
variable {P : Program} {w : World} {K : PySem.W.Frag} {mg : Str -> Option Value} {base : Heap} {f : Addr} {fd : FuncData}
theorem scRows : FnScope ["part","rows","thing"] ["part"] (defScope s_rows_within):=⟨rfl,rfl,rfl,by decide +kernel,rfl,by decide +kernel,by decide +kernel⟩
set_option maxHeartbeats 8000000 in
theorem rows_step {d : Nat} (F : Fun K "rows_within" "rows_within" s_rows_within f fd) (GT : Def P w K mg base CX0 1 "text_of" ["words"] (spText K)) (GR : Def P w K mg base CX0 2 "telling_row" ["telling"] spTRow) (G : Def P w K mg base CX0 (d + 2) "rows_within" ["part"] (spRows d)) : FnOk P w K mg base CX0 (d + 1 + 2) f fd ["part"] (spRows (d + 1)):=by
 refine F.ok scRows (fun vs H Q E h=>?_) (fun cdv A outer s H vs Q E hr h=>?_)
 ·obtain ⟨v,n,fo,rfl,_⟩:=h
  rfl
 obtain ⟨v,n,fo,rfl,hv,hd,hlen,hok,q⟩:=h
 refine ⟨_,pss_cons (ps_set (i:=1) scRows.nd rfl (Or.inl rfl) (pe_lst pa_nil))
  (pss_cons (ps_for PassesOwn.never rfl (pi_tup (pe_ix ix_tup (pv 0) pe_int (fun _ _=>rfl))) (pg_name (i:=2) scRows.nd rfl (Or.inl rfl))
   (pss_one (ps_if (pt_cmpR op_eq (pe_ix ix_tup (pv 2) pe_int (fun _ _=>rfl)) pe_str (nomark _))
    (pss_cons (ps_expr (pe_bm PySem.F.plainAttrs_list PySem.F.slot_list_append PySem.F.type_list_append mt_append (pv 1) (pa_cons pe_str pa_nil)))
    (pss_cons (ps_expr (pe_bm PySem.F.plainAttrs_list PySem.F.slot_list_extend PySem.F.type_list_extend mt_extend (pv 1) (pa_cons (pe_def G hr (pa_cons (pv 2) pa_nil)) pa_nil)))
    (pss_one (ps_expr (pe_bm PySem.F.plainAttrs_list PySem.F.slot_list_append PySem.F.type_list_append mt_append (pv 1) (pa_cons pe_str pa_nil))))))
    (pss_one (ps_if (pt_cmpR op_eq (pe_ix ix_tup (pv 2) pe_int (fun _ _=>rfl)) pe_str (nomark _))
     (pss_one (ps_expr (pe_bm PySem.F.plainAttrs_list PySem.F.slot_list_append PySem.F.type_list_append mt_append (pv 1) (pa_cons (pe_def GR (hr.mono (by omega)) (pa_cons (pv 2) pa_nil)) pa_nil))))
     (pss_one (ps_expr (pe_bm PySem.F.plainAttrs_list PySem.F.slot_list_append PySem.F.type_list_append mt_append (pv 1) (pa_cons (pe_op op_add_str pe_str (pe_def GT (hr.mono (by omega)) (pa_cons (pe_ix ix_tup (pv 2) pe_int (fun _ _=>rfl)) pa_nil))) pa_nil)))))))))
  (pss_one (ps_ret (pv 1)))),?_⟩
 have hb:=big
 obtain ⟨da,db,zs0,rfl,h1,h2,h3⟩:=hv
 have hths:=fR_iff.mp h3
 have hll:=lines_len fo
 refine ⟨(by show 0 <= sizeLine; decide),fun l hl=>?_⟩
 have g1:=same_new hl (.lst [])
 have e1 : upd H l (.lst []) l = some (.lst []):=upd_same
 generalize upd H l (.lst []) = H1 at g1 e1 ⊢
 refine ⟨_,rfl,da,_,_,_,rfl,rfl,SqT.of (g1 _ _ h1),rfl,db,rfl,⟨_,SqT.of (g1 _ _ h2)⟩,?_⟩
 refine for_tup (K:=K) (a:=db) (xs:=zs0) (fun i σ' H'=>∃ (u : Option V),σ' = [some (.ref da),some (.ref l),u] /\ Same H H' /\ H' l = some (.lst (((fo.ths.take i).flatMap linesT).map V.str))) ?_ (fun i σ' H' _ h=>by obtain ⟨u,_,g,_⟩:=h; exact SqT.of (g _ _ h2)) ?_ ?_
 ·exact ⟨none,rfl,g1,e1⟩
 ·rintro i v σ' H' hi ⟨u,rfl,g,hl'⟩
  obtain ⟨th,hth,hv⟩:=paired_get hths hi
  have hmem:=List.mem_of_getElem? hth
  have htok : TOk th:=hok th (ord_of_mem hmem (by cases th <;> exact List.mem_cons_self))
  have v2:=hv.mono g.t
  have hsz:=take_lines_le (f:=fo) i
  have hsz1:=take_lines_le (f:=fo) (i + 1)
  rw [take_lines hth,List.length_append] at hsz1
  have hxl : (((fo.ths.take i).flatMap linesT).map V.str).length = ((fo.ths.take i).flatMap linesT).length:=List.length_map _
  rw [take_lines hth,List.map_append]
  generalize (fo.ths.take i).flatMap linesT = ls at hl' hsz hsz1 hxl ⊢
  cases th with
  | part pn k =>
   obtain ⟨va,pb,pz,rfl,w1,w2,w3⟩:=v2
   refine ⟨_,rfl,va,_,_,_,rfl,rfl,SqT.of w1,rfl,rfl,_,rfl,?_⟩
   refine ite2 (fun _=>?_) (fun z=>absurd (decide_eq_true rfl) z)
   refine ⟨_,rfl,.inl ⟨rfl,_,SqL.of hl'⟩,l,_,_,rfl,rfl,hl',by omega,?_⟩
   have k1 : TSame H' (upd H' l (.lst (ls.map V.str ++ [.str "part"]))):=TSame.lst hl'
   have kk : Same H (upd H' l (.lst (ls.map V.str ++ [.str "part"]))):=keep_upd hl g _
   have e2 : upd H' l (.lst (ls.map V.str ++ [.str "part"])) l = some (.lst (ls.map V.str ++ [.str "part"])):=upd_same
   generalize upd H' l (.lst (ls.map V.str ++ [.str "part"])) = H2 at k1 kk e2 ⊢
   have hdk : k.dep + 1 <= fo.dep:=by
    rcases sub_of_mem (f:=fo) hmem with z | z
    ·exact z
    ·exact absurd ⟨pn,k,rfl⟩ z
   have hko : ∀ s ∈ k.ord,s ∈ fo.ord:=fun s hs=>ord_of_mem hmem (List.mem_cons_of_mem _ hs)
   have hkl : k.ord.length <= fo.ord.length:=by
    have e : (Th.part pn k).ord.length <= fo.ord.length:=by
     rw [ord_flat fo]
     exact (List.sublist_flatten_of_mem (List.mem_map_of_mem hmem)).length_le
    have e2 : (Th.part pn k).ord.length = k.ord.length + 1:=rfl
    omega
   have hkm : ((linesF k).map V.str).length = (linesF k).length:=List.length_map _
   have lk : (linesT (.part pn k)).length = (linesF k).length + 2:=by
    show (_ :: (linesF k ++ [_])).length = _
    rw [List.length_cons,List.length_append,List.length_singleton]
   refine ⟨_,rfl,.inl ⟨rfl,_,SqL.of e2⟩,_,rfl,.ref va,pn,k,rfl,⟨va,pb,pz,rfl,k1 _ _ w1,k1 _ _ w2,fR_mono k1 w3⟩,by omega,by omega,fun s hs=>hok s (hko s hs),fun r H3 g3 fr er=>?_⟩
   have e3:=g3 _ _ e2
   refine ⟨l,r,_,_,rfl,rfl,e3,er,by rw [List.length_append,List.length_singleton]; omega,?_⟩
   have kk3 : Same H (upd H3 l (.lst (ls.map V.str ++ [.str "part"] ++ (linesF k).map V.str))):=keep_upd hl (kk.trans g3) _
   have e4 : upd H3 l (.lst (ls.map V.str ++ [.str "part"] ++ (linesF k).map V.str)) l = some (.lst (ls.map V.str ++ [.str "part"] ++ (linesF k).map V.str)):=upd_same
   generalize upd H3 l (.lst (ls.map V.str ++ [.str "part"] ++ (linesF k).map V.str)) = H4 at kk3 e4 ⊢
   refine ⟨_,rfl,.inl ⟨rfl,_,SqL.of e4⟩,l,_,_,rfl,rfl,e4,by rw [List.length_append,List.length_append,List.length_singleton]; omega,?_⟩
   refine ⟨_,rfl,keep_upd hl kk3 _,?_⟩
   rw [upd_same]
   have e9 : (linesT (.part pn k)).map V.str = [.str "part"] ++ ((linesF k).map V.str ++ [.str "end"]):=by
    show (_ :: (linesF k ++ [_])).map V.str = _
    rw [List.map_cons,List.map_append] <;> rfl
   rw [e9,List.append_assoc,List.append_assoc]
  | tell tn sc ph bs ms =>
   have v3:=v2
   obtain ⟨va,x,y,z,rfl,w1,_⟩:=v2
   refine ⟨_,rfl,va,_,_,_,rfl,rfl,SqT.of w1,rfl,rfl,_,rfl,?_⟩
   refine ite2 (fun z=>absurd z (by show ¬ decide (V.str "tell" = V.str "part") = true; decide)) (fun _=>?_)
   refine ⟨_,rfl,va,_,_,_,rfl,rfl,SqT.of w1,rfl,rfl,_,rfl,?_⟩
   refine ite2 (fun _=>?_) (fun z=>absurd (decide_eq_true rfl) z)
   refine ⟨_,rfl,.inl ⟨rfl,_,SqL.of hl'⟩,_,rfl,tn,sc,ph,bs,ms,_,rfl,v3,htok,fun _ H2 g2=>?_⟩
   have e2:=g2 _ _ hl'
   refine ⟨l,_,_,rfl,rfl,e2,by omega,_,rfl,keep_upd hl (g.trans g2) _,?_⟩
   rw [upd_same] <;> rfl
  | say sn ws =>
   obtain ⟨va,x,rfl,w1,wb,rfl,w2⟩:=v2
   obtain ⟨l1,l2⟩:=rw_len htok
   have e4 : ("say " : Str).length = 4:=by decide +kernel
   refine ⟨_,rfl,va,_,_,_,rfl,rfl,SqT.of w1,rfl,rfl,_,rfl,?_⟩
   refine ite2 (fun z=>absurd z (by show ¬ decide (V.str "say" = V.str "part") = true; decide)) (fun _=>?_)
   refine ⟨_,rfl,va,_,_,_,rfl,rfl,SqT.of w1,rfl,rfl,_,rfl,?_⟩
   refine ite2 (fun z=>absurd z (by show ¬ decide (V.str "say" = V.str "tell") = true; decide)) (fun _=>?_)
   refine ⟨_,rfl,.inl ⟨rfl,_,SqL.of hl'⟩,_,rfl,va,_,_,_,rfl,rfl,SqT.of w1,rfl,wb,ws,rfl,.inr (SqT.of w2),l2,_,_,rfl,rfl,by rw [e4]; omega,?_⟩
   refine ⟨l,_,_,rfl,rfl,hl',by omega,_,rfl,keep_upd hl g _,?_⟩
   rw [upd_same] <;> rfl
 ·rintro σ' H' ⟨u,rfl,g,hl'⟩
  have el : zs0.length = fo.ths.length:=(paired_len hths).symm
  rw [el,List.take_length,<- lines_flatT] at hl'
  exact ⟨_,rfl,q l H' g hl hl'⟩
theorem ok_rows (F : Fun K "rows_within" "rows_within" s_rows_within f fd) (b : Binds K fd ["part"] []) (kp : PySem.W.keepIn K (.ref f) = true) (hm : mg "rows_within" = some (.ref f)) (GT : Def P w K mg base CX0 1 "text_of" ["words"] (spText K)) (GR : Def P w K mg base CX0 2 "telling_row" ["telling"] spTRow) : ∀ d,FnOk P w K mg base CX0 (d + 2) f fd ["part"] (spRows d)
 | 0=>fnok_false fun vs H Q E ⟨v,n,fo,_,_,hd,_⟩=>absurd hd (Nat.not_lt_zero _)
 | d + 1=>rows_step F GT GR (Def.mk' (ok_rows F b kp hm GT GR d) b kp hm)
theorem scWr : FnScope ["doc"] ["doc"] (defScope s_written):=⟨rfl,rfl,rfl,by decide +kernel,rfl,by decide +kernel,by decide +kernel⟩
theorem ok_written (F : Fun K "written" "written" s_written f fd) (GR : Def P w K mg base CX0 13 "rows_within" ["part"] (spRows 11)) : FnOk P w K mg base CX0 14 f fd ["doc"] spWritten:=by
 refine F.ok scWr (fun vs H Q E h=>?_) (fun cdv A outer s H vs Q E hr h=>?_)
 ·obtain ⟨v,fo,rfl,_⟩:=h
  rfl
 obtain ⟨v,fo,rfl,hv,hok,q⟩:=h
 refine ⟨_,pss_one (ps_ret (pe_bm PySem.F.plainAttrs_str PySem.F.slot_str_join PySem.F.type_str_join mt_join pe_str (pa_cons (pe_def GR hr (pa_cons (pv 0) pa_nil)) pa_nil))),?_⟩
 have hd:=hok.dep
 refine ⟨rfl,_,rfl,v,0,fo,rfl,hv,by omega,hok.len,hok.ok,fun r H1 g1 _ er=>?_⟩
 exact ⟨_,r,linesF fo,rfl,rfl,.inl (SqL.of er),hok.join,q H1 g1⟩
end
end D
namespace D
open PySem L2
theorem cs_joinM (s x y : Str) (r : List Str) : cs (Str.join s (x :: y :: r)) = cs x ++ (cs s ++ cs (Str.join s (y :: r))):=by
 show cs (x ++ s ++ Str.join s (y :: r)) = _
 rw [cs_app,cs_app,List.append_assoc]
theorem cs_oneM (c : Nat) : cs (one c) = [c]:=rfl
theorem join_injM {c : Nat} : ∀ {ys zs : List Str},ys ≠ [] -> zs ≠ [] -> (∀ y ∈ ys,c ∉ cs y) -> (∀ z ∈ zs,c ∉ cs z) -> cs (Str.join (one c) ys) = cs (Str.join (one c) zs) -> ys = zs
 | [],_,h,_,_,_,_=>absurd rfl h
 | _ :: _,[],_,h,_,_,_=>absurd rfl h
 | [y],[z],_,_,_,_,h=>by rw [str_ext (x:=y) (y:=z) h]
 | [y],z :: z2 :: r,_,_,hy,_,h=>by
  rw [cs_joinM] at h
  refine absurd ?_ (hy y List.mem_cons_self)
  rw [show cs y = _ from h,cs_oneM]
  simp
 | y :: y2 :: r,[z],_,_,_,hz,h=>by
  rw [cs_joinM] at h
  refine absurd ?_ (hz z List.mem_cons_self)
  rw [show cs z = _ from h.symm,cs_oneM]
  simp
 | y :: y2 :: r,z :: z2 :: r',_,_,hy,hz,h=>by
  rw [cs_joinM,cs_joinM] at h
  obtain ⟨e1,e2⟩:=cut_unique h (hy y List.mem_cons_self) (hz z List.mem_cons_self)
  rw [str_ext e1,join_injM (ys:=y2 :: r) (zs:=z2 :: r') (by simp) (by simp) (fun p hp=>hy p (List.mem_cons_of_mem _ hp)) (fun p hp=>hz p (List.mem_cons_of_mem _ hp)) e2]
theorem split_ne (x s : Str) : Txt.split x s ≠ []:=by
 unfold Txt.split
 split
 ·simp
 ·split
  ·simp
  ·intro h
   have z:=congrArg List.length h
   rw [length_partsBetween] at z
   cases z
theorem split_join {c : Nat} {ys : List Str} (h : ys ≠ []) (hf : ∀ y ∈ ys,c ∉ cs y) : Txt.split (Str.join (one c) ys) (one c) = ys :=
 join_injM (c:=c) (split_ne _ _) h (StrLaws.split_free _ c) hf (congrArg cs (StrLaws.join_split _ (one c)))
theorem good_free {x : Str} {c : Nat} (h : allGood x) (hc : good c = false) : c ∉ cs x:=fun z=>by
 have:=List.all_eq_true.mp h c z
 rw [hc] at this
 cases this
theorem Rw.split {ws : List Str} (h : Rw ws) : Txt.split (Str.join " " ws) " " = ws:=by
 refine split_join (c:=32) ?_ fun y hy=>good_free (h.2.2 y hy).2.2 (by decide)
 intro z
 have:=h.1
 rw [z] at this
 cases this
def isW (x : Str) : Bool:=decide (1 <= x.length) && decide (x.length <= 20) && x.cps.toList.all good
theorem isW_wd {x : Str} (h : Wd x) : isW x = true:=by
 unfold isW
 rw [decide_eq_true h.1,decide_eq_true h.2.1,show x.cps.toList.all good = true from h.2.2] <;> rfl
theorem good_iff (c : Nat) : decide (c ∈ W62.cps.toList) = good c:=by
 by_cases h : c < 128
 ·have all : ∀ c : _root_.Fin 128,decide (c.val ∈ W62.cps.toList) = good c.val:=by decide +kernel
  exact all ⟨c,h⟩
 ·have l : ∀ d ∈ W62.cps.toList,d < 128:=by decide +kernel
  have h1 : c ∉ W62.cps.toList:=fun z=>h (l c z)
  have h2 : good c = false:=by
   unfold good
   rw [decide_eq_false (show ¬ c <= 122 by omega),decide_eq_false (show ¬ c <= 90 by omega),decide_eq_false (show ¬ c <= 57 by omega)]
   simp
  rw [decide_eq_false h1,h2]
structure Tw (K : PySem.W.Frag) (mg : Str -> Option Value) : Prop where
 len : mg "len" = none
 isi : mg "isinstance" = none
 str : mg "str" = none
 all : mg "all" = none
 tuple : mg "tuple" = none
 enum : mg "enumerate" = none
 most : ∃ t,mg "MOST_SIGNS" = some (.int 20 t)
 signs : ∃ t,mg "WORD_SIGNS" = some (.str W62 t)
 words : ∃ t,mg "MOST_WORDS" = some (.int 200 t)
 phrase : ∃ t,mg "MOST_PHRASE_WORDS" = some (.int 4 t)
 bends : ∃ t,mg "MOST_BENDS" = some (.int 5 t)
 deep : ∃ t,mg "DEEPEST_PART" = some (.int 8 t)
 kS : PySem.W.kitOne K (.type "str") (.type "str") = some true
def spWord : Sp:=fun vs H Q _=>∃ x : Str,vs = [.str x] /\ x.length <= sizeLine /\ ∀ H',Same H H' -> Q (.bl (isW x)) H'
section
variable {P : Program} {w : World} {K : PySem.W.Frag} {mg : Str -> Option Value} {base : Heap} {f : Addr} {fd : FuncData}
theorem scWord : FnScope ["thing"] ["thing"] (defScope s_is_word):=⟨rfl,rfl,rfl,by decide +kernel,rfl,by decide +kernel,by decide +kernel⟩
theorem ok_word (F : Fun K "is_word" "is_word" s_is_word f fd) (T : Tw K mg) : FnOk P w K mg base CX0 1 f fd ["thing"] spWord:=by
 refine F.ok scWord (fun vs H Q E h=>?_) (fun cdv A outer s H vs Q E hr h=>?_)
 ·obtain ⟨v,rfl,_⟩:=h
  rfl
 obtain ⟨x,rfl,hz,q⟩:=h
 obtain ⟨tm,hm⟩:=T.most
 obtain ⟨tw,hw⟩:=T.signs
 refine ⟨_,pss_cons (ps_if (pt_not (pt_val (pe_callB call_isi rfl T.isi PyProof.Rows.boot_isinstance (pa_cons (pv 0) (pa_cons (pe_bltn (v:=.ty "str") rfl T.str PyProof.Rows.boot_str rfl) pa_nil))))) (pss_one (ps_ret pe_bl)) pss_nil)
  (pss_cons (ps_if (PW.pt (pw_or (pt_cmpR op_lt (pe_callB call_len_str rfl T.len PySem.boot_len (pa_cons (pv 0) pa_nil)) pe_int (nomark _)) (pw_or1 (pt_cmpR op_gt (pe_callB call_len_str rfl T.len PySem.boot_len (pa_cons (pv 0) pa_nil)) (pe_glob (v:=.int 20) rfl hm ⟨_,rfl⟩) (nomark _))))) (pss_one (ps_ret pe_bl)) pss_nil)
  (pss_one (ps_ret (pe_callB (call_all_bools rfl) rfl T.all PyProof.Rows.boot_all (pa_cons (pe_comp ["thing"] (defScope s_is_word) rfl (by decide +kernel) (by decide +kernel) (pi_str (pv 0)) (fun _ _ _ _ _=>pts_nil)
   (fun _ _ _ _ _=>pe_cmpR op_in_str (pv 1) (pe_glob (v:=.str W62) rfl hw ⟨_,rfl⟩) (by with_unfolding_all rfl))) pa_nil))))),?_⟩
 refine ⟨_,rfl,_,_,_,_,true,rfl,rfl,.str x,T.kS,_,rfl,?_⟩
 refine iteF ?_
 refine ⟨_,rfl,x,rfl,hz,_,_,rfl,rfl,_,rfl,?_⟩
 refine ite2 (fun c=>?_) (fun c=>?_)
 ·have c' : (x.length : Int) < 1:=of_decide_eq_true c
  refine iteT ?_
  have e : isW x = false:=by
   unfold isW
   rw [decide_eq_false (show ¬ 1 <= x.length by omega)] <;> rfl
  rw [e] at q
  exact q H (Same.refl H)
 ·have c' : ¬ (x.length : Int) < 1:=of_decide_eq_false (Bool.eq_false_iff.mpr c)
  refine ⟨_,rfl,x,rfl,hz,_,_,rfl,rfl,_,rfl,?_⟩
  refine ite2 (fun d=>?_) (fun d=>?_)
  ·have d' : (20 : Int) < (x.length : Int):=of_decide_eq_true d
   have e : isW x = false:=by
    unfold isW
    rw [decide_eq_false (show ¬ x.length <= 20 by omega),Bool.and_false] <;> rfl
   rw [e] at q
   exact q H (Same.refl H)
  ·have d' : ¬ (20 : Int) < (x.length : Int):=of_decide_eq_false (Bool.eq_false_iff.mpr d)
   have hl : (x.cps.toList.map fun c=>V.bl (good c)).length = x.length:=by simp [Str.length]
   refine ⟨_,rfl,x,rfl,?_⟩
   refine comprd_by (x.cps.toList.map fun c=>V.bl (good c)) (fun _ H'=>H' = H) (by rw [hl]; exact hz) rfl (fun i H' hi _=>by rw [hl] at hi; exact hi) (fun H' _=>by rw [hl]; exact Nat.le_refl _) ?_ ?_ ?_
   ·rintro i y H1 v' H2 hy rfl ⟨rfl,c,hc,rfl⟩
    rw [List.getElem?_map,hc] at hy
    cases hy
    refine ⟨_,rfl,one c,W62,rfl,rfl,?_,rfl⟩
    rw [StrLaws.found_one,good_iff]
   ·rintro H1 rfl p hp
    refine ⟨p,x.cps.toList.map good,rfl,?_,?_⟩
    ·rw [upd_same,List.map_map] <;> rfl
    ·have e : isW x = (x.cps.toList.map good).all id:=by
      unfold isW
      rw [decide_eq_true (show 1 <= x.length by omega),decide_eq_true (show x.length <= 20 by omega),List.all_map] <;> rfl
     rw [e] at q
     exact q _ (same_new hp _)
   ·rintro σ' H1 Q1 Q2 hq ⟨u,hu,i,j,e1,e2,z⟩
    exact ⟨u,hu,i,j,e1,e2,hq _ _ z⟩
theorem scWO : FnScope ["text","pieces","piece"] ["text"] (defScope s_words_of):=⟨rfl,rfl,rfl,by decide +kernel,rfl,by decide +kernel,by decide +kernel⟩
theorem scRWs : FnScope ["text","words"] ["text"] (defScope s_read_words):=⟨rfl,rfl,rfl,by decide +kernel,rfl,by decide +kernel,by decide +kernel⟩
end
end D
namespace D
open PySem L2
theorem cutV_toM (xs : List V) {k : Int} (h : 0 <= k) : cutV xs none (some k) = xs.take k.toNat:=by
 unfold cutV
 have e : HT.sIx xs.length xs.length (some k) = min k.toNat xs.length:=by
  show (if k < 0 then _ else min k.toNat xs.length) = _
  rw [if_neg (by omega)]
 rw [e]
 show (xs.drop 0).take (min k.toNat xs.length - 0) = _
 rw [List.drop_zero,Nat.sub_zero]
 by_cases hk : k.toNat <= xs.length
 ·rw [Nat.min_eq_left hk]
 ·rw [Nat.min_eq_right (by omega),List.take_length,List.take_of_length_le (by omega)]
theorem cutV_fromM (xs : List V) {k : Int} (h : 0 <= k) : cutV xs (some k) none = xs.drop k.toNat:=by
 unfold cutV
 have e : HT.sIx xs.length 0 (some k) = min k.toNat xs.length:=by
  show (if k < 0 then _ else min k.toNat xs.length) = _
  rw [if_neg (by omega)]
 have e2 : HT.sIx xs.length xs.length none = xs.length:=rfl
 rw [e,e2]
 by_cases hk : k.toNat <= xs.length
 ·rw [Nat.min_eq_left hk,List.take_of_length_le (by rw [List.length_drop]; omega)]
 ·rw [Nat.min_eq_right (by omega),List.drop_length,List.take_nil,List.drop_of_length_le (by omega)]
theorem comp_listM {K : PySem.W.Frag} {a : Addr} {xs : List V} {te : TE} {fin : List V -> Hp -> Prop} {σ : St} {H : Hp} (Pv : Nat -> List V -> Hp -> Prop) (hz : xs.length <= sizeLine) (h0 : Pv 0 [] H) (hl : ∀ i ys H,i <= xs.length -> Pv i ys H -> SqL K H a xs /\ ys.length <= i)
  (hs : ∀ i x ys H,xs[i]? = some x -> Pv i ys H -> ∀ (KY : V -> Hp -> Prop),(∀ y H3,Pv (i + 1) (ys ++ [y]) H3 -> KY y H3) -> te (σ ++ [some x]) H KY)
  (hd : ∀ ys H,Pv xs.length ys H -> fin ys H) : CompRd (Itl K a) tYes te fin σ H:=by
 refine ⟨fun i m ys H=>m = xs.length - i /\ i <= xs.length /\ Pv i ys H,⟨xs.length,by simp,Nat.zero_le _,h0⟩,?_⟩
 rintro i m ys H ⟨rfl,hi,p⟩
 obtain ⟨q,hy⟩:=hl i ys H hi p
 by_cases hlt : i < xs.length
 ·refine .inr ⟨⟨xs,xs[i],q,by simp [hlt]⟩,fun x H' y=>?_⟩
  obtain ⟨e,y⟩:=y
  subst e
  unfold tYes
  dsimp only
  rw [if_pos rfl]
  exact hs i x ys _ (y xs q) p _ fun z H3 p3=>⟨by omega,xs.length - (i + 1),by omega,rfl,hlt,p3⟩
 ·have e : i = xs.length:=by omega
  subst e
  exact .inl ⟨⟨xs,q,Nat.le_refl _⟩,hd ys H p⟩
theorem paired_snocM {α β : Type} {F : α -> β -> Prop} {a : α} {b : β} : ∀ {l : List α} {m : List β},Paired F l m -> F a b -> Paired F (l ++ [a]) (m ++ [b])
 | _,_,.nil,h=>.cons h .nil
 | _ :: _,_ :: _,.cons q r,h=>.cons q (paired_snocM r h)
theorem paired_lenM {α β : Type} {F : α -> β -> Prop} : ∀ {l : List α} {m : List β},Paired F l m -> l.length = m.length
 | _,_,.nil=>rfl
 | _ :: _,_ :: _,.cons _ r=>by rw [List.length_cons,List.length_cons,paired_lenM r]
theorem while_post {tc : TT} {tb : TS} {D : Ends} {σ : St} {H : Hp} (W : Nat -> St -> Hp -> Prop) (Post : St -> Hp -> Prop) (h0 : ∃ m,W m σ H)
  (hs : ∀ R : St -> Hp -> Prop,(∀ σ H,Post σ H -> R σ H) -> ∀ m σ H,W m σ H -> tc σ H fun b H1=>if b = true then ∃ N : St -> Hp -> Prop,(∀ σ' H',N σ' H' -> ∃ m',m' < m /\ W m' σ' H') /\ tb { D with nx:=N,ct:=N,bk:=D.nx } σ H1 else R σ H1)
  (hp : ∀ σ H,Post σ H -> D.nx σ H) : tWhile tc tb D σ H:=⟨W,h0,fun m σ H hw=>hs D.nx hp m σ H hw⟩
def bX (b : Str × Str) : Str:=Str.join ">" [b.1,b.2]
def BdOk (b : Str × Str) : Prop:=b.1.length <= 20 /\ b.2.length <= 20 /\ allGood b.1 /\ allGood b.2
theorem cs_bX (b : Str × Str) : cs (bX b) = cs b.1 ++ 62 :: cs b.2:=by
 show cs (b.1 ++ ">" ++ b.2) = _
 have e : cs (">" : Str) = [62]:=by decide +kernel
 rw [cs_app,cs_app,e,List.append_assoc] <;> rfl
theorem isW_bX (b : Str × Str) : isW (bX b) = false:=by
 rw [Bool.eq_false_iff]
 intro h
 unfold isW at h
 simp only [Bool.and_eq_true] at h
 have m : 62 ∈ (bX b).cps.toList:=by
  show 62 ∈ cs (bX b)
  rw [cs_bX]
  simp
 exact absurd (List.all_eq_true.mp h.2 62 m) (by decide)
theorem bX_split {b : Str × Str} (h : BdOk b) : Txt.split (bX b) ">" = [b.1,b.2]:=by
 refine split_join (c:=62) (by simp) fun y hy=>?_
 simp only [List.mem_cons,List.not_mem_nil,or_false] at hy
 rcases hy with rfl | rfl
 ·exact good_free h.2.2.1 (by decide)
 ·exact good_free h.2.2.2 (by decide)
theorem isW_side {y : Str} (h : y.length <= 20) (g : allGood y) : y = "" ∨ isW y = true:=by
 by_cases z : 1 <= y.length
 ·exact .inr (isW_wd ⟨z,h,g⟩)
 ·refine .inl (str_ext ?_)
  have e : cs ("" : Str) = []:=by decide +kernel
  rw [e]
  refine List.length_eq_zero_iff.mp ?_
  rw [cs_len]
  omega
section
variable {P : Program} {w : World} {K : PySem.W.Frag} {mg : Str -> Option Value} {base : Heap} {f : Addr} {fd : FuncData}
theorem scRB : FnScope ["piece","sides","side"] ["piece"] (defScope s_read_bend):=⟨rfl,rfl,rfl,by decide +kernel,rfl,by decide +kernel,by decide +kernel⟩
abbrev NPB : List Str:=["pieces","many","bends"]
theorem scRPB : FnScope NPB ["pieces"] (defScope s_read_phrase_and_bends):=⟨rfl,rfl,rfl,by decide +kernel,rfl,by decide +kernel,by decide +kernel⟩
end
end D
namespace D
open PySem L2
theorem formW_good {l : Str} {cp : Str × Str} (h1 : allGood l) (h2 : allGood cp.2) : allGood (formW l cp):=by
 unfold formW
 exact .mk (by rw [List.all_append,all_take h1,show (cs cp.2).all good = true from h2] <;> rfl)
theorem formW_eq {l : Str} {cp : Str × Str} {n : Int} (h0 : 0 <= n) (hn : n = (l.length : Int) - (cp.1.length : Int)) : (⟨(cutC l none (some n)).toArray⟩ : Str) ++ cp.2 = formW l cp:=by
 refine str_ext ?_
 unfold formW
 rw [cs_app,cs_mk,cs_mk,cut_to l h0]
 congr 2
 omega
theorem paired_strM (H : Hp) : ∀ zs : List Str,Paired (strR H) zs (zs.map V.str)
 | []=>.nil
 | _ :: r=>.cons rfl (paired_strM H r)
theorem wR_tup {K : PySem.W.Frag} {H : Hp} {zs : List Str} {v : V} (h : wR H zs v) : tupR K strR H zs v:=let ⟨a,e,q⟩:=h; ⟨a,_,e,SqT.of q,paired_strM _ _⟩
section
variable {P : Program} {w : World} {K : PySem.W.Frag} {mg : Str -> Option Value} {base : Heap} {f : Addr} {fd : FuncData}
theorem scBent : FnScope ["phrase","bend","last","cut","new_last"] ["phrase","bend"] (defScope s_bent):=⟨rfl,rfl,rfl,by decide +kernel,rfl,by decide +kernel,by decide +kernel⟩
theorem scForms : FnScope ["phrase","bends","found","bend","form"] ["phrase","bends"] (defScope s_forms):=⟨rfl,rfl,rfl,by decide +kernel,rfl,by decide +kernel,by decide +kernel⟩
theorem dec_noM {p : Prop} (h : ¬ p) (i : Decidable p) : @decide p i = false:=@decide_eq_false p i h
theorem scHas : FnScope ["phrase","bends"] ["phrase","bends"] (defScope s_has_forms):=⟨rfl,rfl,rfl,by decide +kernel,rfl,by decide +kernel,by decide +kernel⟩
end
end D
namespace D
open PySem L2
theorem count_join (c : Nat) (s x y : Str) (r : List Str) : (cs (Str.join s (x :: y :: r))).count c = (cs x).count c + ((cs s).count c + (cs (Str.join s (y :: r))).count c):=by
 rw [cs_joinM,List.count_append,List.count_append]
theorem split2 {a b : Str} (ha : 58 ∉ cs a) (hb : 58 ∉ cs b) : Txt.split (a ++ ": " ++ b) ": " = [a,b]:=by
 have eS : cs (": " : Str) = [58,32]:=by decide +kernel
 have eL : (": " : Str).length = 2:=by decide +kernel
 have eX : cs (a ++ ": " ++ b) = cs a ++ 58 :: 32 :: cs b:=by rw [cs_app,cs_app,eS,List.append_assoc] <;> rfl
 have c0 : (cs a).count 58 = 0:=List.count_eq_zero.mpr ha
 have c1 : (cs b).count 58 = 0:=List.count_eq_zero.mpr hb
 have cX : (cs (a ++ ": " ++ b)).count 58 = 1:=by
  rw [eX,List.count_append,c0,List.count_cons_self,List.count_cons_of_ne (by decide),c1]
 have hj:=StrLaws.join_split (a ++ ": " ++ b) ": "
 have hn : (Txt.split (a ++ ": " ++ b) ": ").length ≠ 1:=by
  have hz : (a ++ ": " ++ b).length = a.length + 2 + b.length:=by rw [len_app,len_app,eL]
  have hAt : StrLaws.At (a ++ ": " ++ b) ": " (a ++ ": " ++ b).length a.length:=by
   refine ⟨by rw [hz,eL]; omega,?_⟩
   rw [StrLaws.subAt_eq,eL]
   show (((cs (a ++ ": " ++ b)).drop a.length).take 2 == cs ": ") = true
   rw [eX,<- cs_len a,List.drop_left,eS]
   rfl
  have h1 : ¬ ((decide ((a ++ ": " ++ b).length < (": " : Str).length) || decide (Builtin.Str.strKind (a ++ ": " ++ b) < Builtin.Str.strKind ": ")) = true):=by
   have k1 : Builtin.Str.strKind ": " = 1:=by decide +kernel
   have k2 : 1 <= Builtin.Str.strKind (a ++ ": " ++ b):=by
    unfold Builtin.Str.strKind
    split
    ·exact Nat.le_refl _
    ·split <;> decide
   rw [k1,eL,hz,decide_eq_false (by omega),decide_eq_false (by omega)]
   decide
  unfold Txt.split
  rw [if_neg h1]
  rcases StrLaws.occ_head (a ++ ": " ++ b) ": " ((a ++ ": " ++ b).length + 1) (by omega) with ⟨_,no⟩ | ⟨i,r,e,_⟩
  ·exact absurd hAt (no _)
  ·rw [e,if_neg (by simp)]
   intro z
   rw [length_partsBetween] at z
   simp at z
 cases hs : Txt.split (a ++ ": " ++ b) ": " with
 | nil=>exact absurd hs (split_ne _ _)
 | cons p t =>
  rw [hs] at hj hn
  cases t with
  | nil=>exact absurd rfl hn
  | cons q t =>
   have hc:=congrArg (fun x=>(cs x).count 58) hj
   rw [cX,count_join,eS] at hc
   have e58 : ([58,32] : List Nat).count 58 = 1:=by decide
   rw [e58] at hc
   have hp : 58 ∉ cs p:=List.count_eq_zero.mp (by omega)
   cases t with
   | nil =>
    have hx:=congrArg cs hj
    rw [cs_joinM,eS,eX] at hx
    obtain ⟨e1,e2⟩:=cut_unique (l1:=cs p) (l2:=cs a) (r1:=32 :: cs (Str.join ": " [q])) (r2:=32 :: cs b) hx hp ha
    rw [str_ext e1,str_ext (x:=q) (y:=b) (List.cons.inj e2).2]
   | cons r t =>
    rw [count_join,eS,e58] at hc
    omega
theorem join_appM : ∀ {xs : List Str} (ys : List Str),xs ≠ [] -> cs (Str.join " " (xs ++ ys)) = cs (Str.join " " xs) ++ (ys.map fun y=>32 :: cs y).flatten
 | [],_,h=>absurd rfl h
 | [x],ys,_=>by
  have e : cs (" " : Str) = [32]:=by decide +kernel
  show cs (Str.join " " (x :: ys)) = cs x ++ _
  induction ys generalizing x with
  | nil=>simp [Str.join]
  | cons y r ih =>
   rw [cs_joinM,e,ih y (by simp),List.map_cons,List.flatten_cons] <;> rfl
 | x :: x2 :: r,ys,_=>by
  show cs (Str.join " " (x :: x2 :: (r ++ ys))) = _
  rw [cs_joinM,cs_joinM,show x2 :: (r ++ ys) = (x2 :: r) ++ ys from rfl,join_appM (xs:=x2 :: r) ys (by simp),List.append_assoc,List.append_assoc]
def pcX (sc : Str) (ph : List Str) (bs : List (Str × Str)) : List Str:=sc :: (ph ++ bs.map bX)
def tlX (sc : Str) (ph : List Str) (bs : List (Str × Str)) (ms : List Str) : Str:=Str.join " " (pcX sc ph bs) ++ ": " ++ Str.join " " ms
theorem cs_bT (b : Str × Str) : cs (bT b) = 32 :: cs (bX b):=by
 unfold bT
 rw [cs_glue,cs_bX]
 have e1 : cs (" " : Str) = [32]:=by decide +kernel
 have e2 : cs (">" : Str) = [62]:=by decide +kernel
 show [] ++ (cs " " ++ (cs b.1 ++ (cs ">" ++ (cs b.2 ++ [])))) = _
 rw [e1,e2,List.append_nil]
 rfl
theorem line_tell {n : Int} {sc : Str} {ph : List Str} {bs : List (Str × Str)} {ms : List Str} (h : ph ≠ []) : lineOf (.tell n sc ph bs ms) = "tell " ++ tlX sc ph bs ms:=by
 refine str_ext ?_
 show cs (headOf sc ph bs ++ ": " ++ Str.join " " ms) = _
 rw [head_join]
 unfold tlX pcX
 have e1 : cs (" " : Str) = [32]:=by decide +kernel
 cases ph with
 | nil=>exact absurd rfl h
 | cons p r =>
  have j:=join_appM (xs:=sc :: p :: r) (bs.map bX) (by simp)
  have eb : (bs.map bT).map cs = (bs.map bX).map fun y=>32 :: cs y:=by
   rw [List.map_map,List.map_map]
   exact List.map_congr_left fun b _=>cs_bT b
  rw [cs_joinM,e1] at j
  simp only [cs_app,cs_joinE,eb,e1]
  rw [show sc :: (p :: r ++ bs.map bX) = (sc :: p :: r) ++ bs.map bX from rfl,j]
  simp only [List.append_assoc]
theorem free_join {c : Nat} {s : Str} (hs : c ∉ cs s) : ∀ {ys : List Str},(∀ y ∈ ys,c ∉ cs y) -> c ∉ cs (Str.join s ys)
 | [],_=>by show c ∉ cs ("" : Str); rw [show cs ("" : Str) = [] by decide +kernel]; simp
 | [y],h=>h y List.mem_cons_self
 | y :: y2 :: r,h=>by
  rw [cs_joinM]
  intro z
  rcases List.mem_append.mp z with z | z
  ·exact h y List.mem_cons_self z
  ·rcases List.mem_append.mp z with z | z
   ·exact hs z
   ·exact free_join hs (fun x hx=>h x (List.mem_cons_of_mem _ hx)) z
theorem sc_good {sc : Str} (h : sc ∈ (["all","part","here","else"] : List Str)) : Wd sc:=by
 simp only [List.mem_cons,List.not_mem_nil,or_false] at h
 rcases h with rfl | rfl | rfl | rfl <;> exact ⟨by decide +kernel,by decide +kernel,by unfold allGood; decide +kernel⟩
theorem TlOk.bd {sc : Str} {ph : List Str} {bs : List (Str × Str)} {ms : List Str} (h : TlOk sc ph bs ms) : ∀ b ∈ bs,BdOk b:=fun b hb=>by
 obtain ⟨ws,last,e,hB⟩:=h.hbs
 have l20:=(h.hph last (by rw [e]; exact List.mem_append_right _ List.mem_cons_self)).2.1
 have f:=hB.fit b hb
 exact ⟨by omega,f.2.2.1,f.2.2.2.1,f.2.2.2.2.1⟩
theorem TlOk.ne {sc : Str} {ph : List Str} {bs : List (Str × Str)} {ms : List Str} (h : TlOk sc ph bs ms) : ph ≠ []:=fun z=>by
 obtain ⟨ws,last,e,_⟩:=h.hbs
 rw [z] at e
 exact absurd e.symm (by simp)
theorem TlOk.pcs {sc : Str} {ph : List Str} {bs : List (Str × Str)} {ms : List Str} (h : TlOk sc ph bs ms) {c : Nat} (hc : good c = false) (h62 : c ≠ 62) : ∀ y ∈ pcX sc ph bs,c ∉ cs y:=fun y hy=>by
 rcases List.mem_cons.mp hy with rfl | hy
 ·exact good_free (sc_good h.hsc).2.2 hc
 ·rcases List.mem_append.mp hy with hy | hy
  ·exact good_free (h.hph y hy).2.2 hc
  ·obtain ⟨b,hb,rfl⟩:=List.mem_map.mp hy
   have B:=h.bd b hb
   rw [cs_bX]
   intro z
   rcases List.mem_append.mp z with z | z
   ·exact good_free B.2.2.1 hc z
   ·rcases List.mem_cons.mp z with z | z
    ·exact h62 z
    ·exact good_free B.2.2.2 hc z
theorem Rw.free {ws : List Str} (h : Rw ws) {c : Nat} (hc : good c = false) (h32 : c ≠ 32) : c ∉ cs (Str.join " " ws) :=
 free_join (by rw [show cs (" " : Str) = [32] by decide +kernel]; simpa using h32) fun y hy=>good_free (h.2.2 y hy).2.2 hc
theorem TlOk.split1 {sc : Str} {ph : List Str} {bs : List (Str × Str)} {ms : List Str} (h : TlOk sc ph bs ms) : Txt.split (tlX sc ph bs ms) ": " = [Str.join " " (pcX sc ph bs),Str.join " " ms] :=
 split2 (free_join (by decide +kernel) (h.pcs (by decide) (by decide))) (h.hms.free (by decide) (by decide))
theorem TlOk.split2 {sc : Str} {ph : List Str} {bs : List (Str × Str)} {ms : List Str} (h : TlOk sc ph bs ms) : Txt.split (Str.join " " (pcX sc ph bs)) " " = pcX sc ph bs :=
 split_join (c:=32) (by unfold pcX; simp) (h.pcs (by decide) (by decide))
end D
namespace D
open PySem L2
abbrev scs : List Str:=["all","part","here","else"]
structure Ts (K : PySem.W.Frag) (mg : Str -> Option Value) (CS : Addr) : Prop where
 m : mg "SCOPES" = some (.ref CS)
 s : ∀ H,SqT K H CS (scs.map V.str)
theorem sc_in {sc : Str} (h : sc ∈ scs) : inV (.str sc) (scs.map V.str) = true:=by
 simp only [List.mem_cons,List.not_mem_nil,or_false] at h
 rcases h with rfl | rfl | rfl | rfl <;> decide +kernel
def setN (n : Int) : Th -> Th
 | .say _ ws=>.say n ws
 | .tell _ sc ph bs ms=>.tell n sc ph bs ms
 | .part _ i=>.part n i
theorem starts_app (x y : Str) : Txt.startswith (y ++ x) y = true:=by
 unfold Txt.startswith
 rw [StrLaws.subAt_eq]
 have e : ((y ++ x).cps.toList.drop 0).take y.length = y.cps.toList:=by
  show ((cs (y ++ x)).drop 0).take y.length = cs y
  rw [cs_app,List.drop_zero,<- cs_len,List.take_left]
 rw [e,len_app,decide_eq_true (by omega)]
 simp
theorem starts_no (x : Str) : Txt.startswith ("tell " ++ x) "say " = false:=by
 unfold Txt.startswith
 rw [StrLaws.subAt_eq]
 have e1 : cs ("tell " : Str) = [116,101,108,108,32]:=by decide +kernel
 have e2 : ("say " : Str).cps.toList = [115,97,121,32]:=by decide +kernel
 have e3 : ("say " : Str).length = 4:=by decide +kernel
 have e : (("tell " ++ x).cps.toList.drop 0).take ("say " : Str).length = [116,101,108,108]:=by
  show ((cs ("tell " ++ x)).drop 0).take _ = _
  rw [cs_app,e1,e3] <;> rfl
 rw [e,e2]
 have : (([116,101,108,108] : List Nat) == [115,97,121,32]) = false:=by decide
 rw [this,Bool.and_false]
section
variable {P : Program} {w : World} {K : PySem.W.Frag} {mg : Str -> Option Value} {base : Heap} {f : Addr} {fd : FuncData}
theorem scRS : FnScope ["text","number","words"] ["text","number"] (defScope s_read_say):=⟨rfl,rfl,rfl,by decide +kernel,rfl,by decide +kernel,by decide +kernel⟩
abbrev NRT : List Str:=["text","number","sides","pieces","told","meaning"]
theorem scRT : FnScope NRT ["text","number"] (defScope s_read_telling):=⟨rfl,rfl,rfl,by decide +kernel,rfl,by decide +kernel,by decide +kernel⟩
theorem scRR : FnScope ["row","number"] ["row","number"] (defScope s_read_row):=⟨rfl,rfl,rfl,by decide +kernel,rfl,by decide +kernel,by decide +kernel⟩
theorem scCIR : FnScope ["text"] ["text"] (defScope s_cut_in_rows):=⟨rfl,rfl,rfl,by decide +kernel,rfl,by decide +kernel,by decide +kernel⟩
end
end D
namespace D
open PySem L2
def ren : Int -> F -> F
 | _,.nil=>.nil
 | k,.say _ ws r=>.say (k + 1) ws (ren (k + 1) r)
 | k,.tell _ sc ph bs ms r=>.tell (k + 1) sc ph bs ms (ren (k + 1) r)
 | k,.part _ i r=>.part (k + 1) (ren (k + 1) i) (ren (k + 1 + (i.ord.length : Nat)) r)
def renT (k : Int) : Th -> Th
 | .say _ ws=>.say (k + 1) ws
 | .tell _ sc ph bs ms=>.tell (k + 1) sc ph bs ms
 | .part _ i=>.part (k + 1) (ren (k + 1) i)
abbrev Sk:=List (Int × List Th)
def fin : List (Option Th) -> Int -> Sk -> Sk
 | [],_,st=>st
 | none :: r,k,st=>fin r k (match st with | (n,ts) :: (m,us) :: s=>(m,us ++ [.part n (F.of ts)]) :: s | s=>s)
 | some t :: r,k,st=>fin r (k + (t.ord.length : Nat)) (match st with | (n,ts) :: s=>(n,ts ++ [renT k t]) :: s | s=>s)
def lvR (H : Hp) (x : Int × List Th) (e : Addr × Addr) : Prop:=H e.1 = some (.tup [.int x.1,.ref e.2]) /\ ∃ xs,H e.2 = some (.lst xs) /\ thsR H x.2 xs
structure StR (H0 H : Hp) (u : Addr) (st : Sk) (es : List (Addr × Addr)) : Prop where
 same : Same H0 H
 hu : H u = some (.lst (es.reverse.map fun e=>V.ref e.1))
 lv : Paired (lvR H) st es
 nd : (u :: es.map Prod.snd).Nodup
 fr : ∀ a ∈ u :: es.map Prod.snd,H0 a = none
theorem lvs_keep {H H' : Hp} (g : TSame H H') : ∀ {st : Sk} {es : List (Addr × Addr)},Paired (lvR H) st es -> (∀ e ∈ es,∀ o,H e.2 = some o -> H' e.2 = some o) -> Paired (lvR H') st es
 | _,_,.nil,_=>.nil
 | _ :: _,e :: _,.cons ⟨h1,xs,h2,h3⟩ r,h=>.cons ⟨g _ _ h1,xs,h e List.mem_cons_self _ h2,h3.mono g⟩ (lvs_keep g r fun e he=>h e (List.mem_cons_of_mem _ he))
theorem StR.add {H0 H : Hp} {u : Addr} {n : Int} {ts : List Th} {s : Sk} {p l : Addr} {es : List (Addr × Addr)} {xs : List V} {t : Th} {v : V} (S : StR H0 H u ((n,ts) :: s) ((p,l) :: es)) (hl : H l = some (.lst xs)) (hx : thsR H ts xs) (ht : thR H t v) :
  StR H0 (upd H l (.lst (xs ++ [v]))) u ((n,ts ++ [t]) :: s) ((p,l) :: es):=by
 have gE : TSame H (upd H l (.lst (xs ++ [v]))):=TSame.lst hl
 have nd:=S.nd
 have n1 : u ≠ l:=fun z=>by rw [z] at nd; simp at nd
 have n2 : ∀ e ∈ es,e.2 ≠ l:=fun e he z=>by
  rw [List.map_cons,List.nodup_cons,List.nodup_cons] at nd
  exact nd.2.1 (List.mem_map.mpr ⟨e,he,z⟩)
 cases S.lv with
 | cons k r =>
  refine ⟨keep_upd (S.fr l (by simp)) S.same _,by rw [upd_ne n1]; exact S.hu,.cons ⟨gE _ _ k.1,_,upd_same,paired_snocM (hx.mono gE) (ht.mono gE)⟩ (lvs_keep gE r fun e he o z=>by rw [upd_ne (n2 e he)]; exact z),S.nd,S.fr⟩
theorem rev_ref (e : Addr × Addr) (es : List (Addr × Addr)) : ((e :: es).reverse.map fun e=>V.ref e.1) = (es.reverse.map fun e=>V.ref e.1) ++ [V.ref e.1]:=by
 rw [List.reverse_cons,List.map_append] <;> rfl
def spEP : Sp:=fun vs H Q _=>∃ (H0 : Hp) (u : Addr) (n m : Int) (ts us : List Th) (s : Sk) (es : List (Addr × Addr)),vs = [.ref u] /\ StR H0 H u ((n,ts) :: (m,us) :: s) es /\ us.length <= 1000 /\ ∀ H' es',StR H0 H' u ((m,us ++ [.part n (F.of ts)]) :: s) es' -> Q .non H'
section
variable {P : Program} {w : World} {K : PySem.W.Frag} {mg : Str -> Option Value} {base : Heap} {f : Addr} {fd : FuncData}
theorem scEP : FnScope ["unended","ended"] ["unended"] (defScope s_end_part):=⟨rfl,rfl,rfl,by decide +kernel,rfl,by decide +kernel,by decide +kernel⟩
set_option maxHeartbeats 4000000 in
theorem ok_ep (F : Fun K "end_part" "end_part" s_end_part f fd) (T : Tw K mg) : FnOk P w K mg base CX0 1 f fd ["unended"] spEP:=by
 refine F.ok scEP (fun vs H Q E h=>?_) (fun cdv A outer s H vs Q E hr h=>?_)
 ·obtain ⟨H0,u,n,m,ts,us,st,es,rfl,_⟩:=h
  rfl
 obtain ⟨H0,u,n,m,ts,us,st,es,rfl,S,hus,q⟩:=h
 refine ⟨_,pss_cons (ps_set (i:=1) scEP.nd rfl (Or.inl rfl) (pe_bm0 PySem.F.plainAttrs_list PySem.F.slot_list_pop PySem.F.type_list_pop mt_pop (pv 0)))
  (pss_one (ps_expr (pe_bm PySem.F.plainAttrs_list PySem.F.slot_list_append PySem.F.type_list_append mt_append (pe_ix ix_tup (pe_ix ix_list (pv 0) (pe_un un_neg pe_int) (fun _ _=>rfl)) pe_int (fun _ _=>rfl)) (pa_cons (pe_tup (pa_cons pe_str (pa_cons (pe_ix ix_tup (pv 1) pe_int (fun _ _=>rfl)) (pa_cons (pe_callTy call_tuple_of rfl T.tuple PyProof.Rows.boot_tuple (pa_cons (pe_ix ix_tup (pv 1) pe_int (fun _ _=>rfl)) pa_nil)) pa_nil)))) pa_nil)))),?_⟩
 have hb:=big
 have lv:=S.lv
 cases lv with
 | cons k1 r1 =>
  rename_i e1 es1
  obtain ⟨p1,l1⟩:=e1
  cases r1 with
  | cons k2 r2 =>
   rename_i e2 es2
   obtain ⟨p2,l2⟩:=e2
   obtain ⟨a1,xs1,b1,c1⟩:=k1
   obtain ⟨a2,xs2,b2,c2⟩:=k2
   have hu:=S.hu
   rw [rev_ref] at hu
   have nd:=S.nd
   have n1 : u ≠ l1:=fun z=>by rw [z] at nd; simp at nd
   have n2 : u ≠ l2:=fun z=>by rw [z] at nd; simp at nd
   have n12 : l1 ≠ l2:=fun z=>by rw [z] at nd; simp at nd
   have fu:=S.fr u List.mem_cons_self
   have ev : ((((p2,l2) :: es2).reverse.map fun e=>V.ref e.1) ++ [V.ref p1])[((((p2,l2) :: es2).reverse.map fun e=>V.ref e.1) ++ [V.ref p1]).length - 1]? = some (.ref p1):=by
    rw [List.length_append,List.length_singleton,Nat.add_sub_cancel,List.getElem?_append_right (Nat.le_refl _),Nat.sub_self] <;> rfl
   refine ⟨_,rfl,.inl ⟨rfl,_,SqL.of hu⟩,u,_,_,rfl,rfl,hu,ev,?_⟩
   rw [List.dropLast_concat]
   have gA : TSame H (upd H u (.lst (((p2,l2) :: es2).reverse.map fun e=>V.ref e.1))):=TSame.lst hu
   have sA : Same H0 (upd H u (.lst (((p2,l2) :: es2).reverse.map fun e=>V.ref e.1))):=keep_upd fu S.same _
   have uA : upd H u (.lst (((p2,l2) :: es2).reverse.map fun e=>V.ref e.1)) u = some (.lst (((p2,l2) :: es2).reverse.map fun e=>V.ref e.1)):=upd_same
   have oA : ∀ b o,u ≠ b -> H b = some o -> upd H u (.lst (((p2,l2) :: es2).reverse.map fun e=>V.ref e.1)) b = some o:=fun b o hb e=>by rw [upd_ne (Ne.symm hb)]; exact e
   show gName 1 _ _ (upd H u (.lst (((p2,l2) :: es2).reverse.map fun e=>V.ref e.1))) _
   generalize upd H u (.lst (((p2,l2) :: es2).reverse.map fun e=>V.ref e.1)) = H1 at gA sA uA oA ⊢
   have ue : ∀ e ∈ es2,u ≠ e.2:=fun e he z=>by
    rw [List.nodup_cons] at nd
    exact nd.1 (List.mem_cons_of_mem _ (List.mem_cons_of_mem _ (List.mem_map.mpr ⟨e,he,z.symm⟩)))
   have S1 : StR H0 H1 u ((m,us) :: st) ((p2,l2) :: es2):=by
    refine ⟨sA,uA,.cons ⟨gA _ _ a2,xs2,oA _ _ n2 b2,c2.mono gA⟩ (lvs_keep gA r2 fun e he o z=>oA _ _ (ue e he) z),?_,fun a ha=>S.fr a ?_⟩
    ·simp only [List.map_cons,List.nodup_cons,List.mem_cons,not_or] at nd ⊢
     exact ⟨⟨nd.1.2.1,nd.1.2.2⟩,nd.2.2⟩
    ·rcases List.mem_cons.mp ha with z | z
     ·rw [z]; exact List.mem_cons_self
     ·exact List.mem_cons_of_mem _ (List.mem_cons_of_mem _ z)
   have a1':=gA _ _ a1
   have b1':=oA _ _ n1 b1
   have uA':=uA
   rw [rev_ref] at uA'
   refine ⟨_,rfl,1,rfl,u,_,_,_,rfl,rfl,SqL.of uA',atI_last _ _,p2,_,_,_,rfl,rfl,SqT.of (gA _ _ a2),rfl,.inl ⟨rfl,_,SqL.of (oA _ _ n2 b2)⟩,_,rfl,p1,_,_,_,rfl,rfl,SqT.of a1',rfl,_,rfl,p1,_,_,_,rfl,rfl,SqT.of a1',rfl,l1,xs1,rfl,.inl ⟨SqL.of b1',fun t ht=>?_⟩⟩
   have gC:=same_new ht (.tup xs1)
   have e3 : upd H1 t (.tup xs1) t = some (.tup xs1):=upd_same
   generalize upd H1 t (.tup xs1) = H3 at gC e3 ⊢
   refine ⟨(by show 3 <= sizeLine; decide),fun p hp=>?_⟩
   have gD:=same_new hp (.tup [.str "part",.int n,.ref t])
   have e4 : upd H3 p (.tup [.str "part",.int n,.ref t]) p = some (.tup [.str "part",.int n,.ref t]):=upd_same
   generalize upd H3 p (.tup [.str "part",.int n,.ref t]) = H4 at gD e4 ⊢
   have g4 : Same H1 H4:=gC.trans gD
   have S4 : StR H0 H4 u ((m,us) :: st) ((p2,l2) :: es2):=⟨S1.same.trans g4,g4 _ _ S1.hu,lvs_keep g4.t S1.lv fun e he o z=>g4 _ _ z,S1.nd,S1.fr⟩
   have hp4 : thR H4 (.part n (L2.F.of ts)) (.ref p):=⟨p,t,xs1,rfl,e4,gD _ _ e3,fR_iff.mpr (by rw [ths_of]; exact c1.mono (gA.trans g4.t))⟩
   have b2':=g4 _ _ (oA _ _ n2 b2)
   have hl2 : xs2.length <= 1000:=by rw [<- paired_lenM c2]; exact hus
   refine ⟨l2,_,_,rfl,rfl,b2',by omega,?_⟩
   exact q _ _ (S4.add b2' (c2.mono (gA.trans g4.t)) hp4)
end
end D
namespace D
open PySem L2
theorem line_first {t : Th} (h : TOk t) (hn : ¬ ∃ n i,t = .part n i) : 10 ∉ cs (lineOf t) /\ ∃ c r,cs (lineOf t) = c :: r /\ (c = 115 ∨ c = 116):=by
 have e1 : cs ("say " : Str) = [115,97,121,32]:=by decide +kernel
 have e2 : cs ("tell " : Str) = [116,101,108,108,32]:=by decide +kernel
 have e3 : cs (": " : Str) = [58,32]:=by decide +kernel
 cases t with
 | part n i=>exact absurd ⟨n,i,rfl⟩ hn
 | say n ws =>
  have h : Rw ws:=h
  have f:=h.free (c:=10) (by decide) (by decide)
  show 10 ∉ cs ("say " ++ Str.join " " ws) /\ ∃ c r,cs ("say " ++ Str.join " " ws) = c :: r /\ _
  rw [cs_app,e1]
  refine ⟨fun z=>?_,_,_,rfl,.inl rfl⟩
  rcases List.mem_append.mp z with z | z
  ·exact absurd z (by decide)
  ·exact f z
 | tell n sc ph bs ms =>
  have h : TlOk sc ph bs ms:=h
  rw [line_tell h.ne,cs_app,e2]
  refine ⟨fun z=>?_,_,_,rfl,.inr rfl⟩
  rcases List.mem_append.mp z with z | z
  ·exact absurd z (by decide)
  ·have z : 10 ∈ cs (Str.join " " (pcX sc ph bs) ++ ": " ++ Str.join " " ms):=z
   rw [cs_app,cs_app,e3] at z
   rcases List.mem_append.mp z with z | z
   ·rcases List.mem_append.mp z with z | z
    ·exact free_join (by decide +kernel) (h.pcs (by decide) (by decide)) z
    ·exact absurd z (by decide)
   ·exact h.hms.free (by decide) (by decide) z
theorem line_ne {t : Th} (h : TOk t) (hn : ¬ ∃ n i,t = .part n i) : lineOf t ≠ "end" /\ lineOf t ≠ "part":=by
 obtain ⟨_,c,r,e,hc⟩:=line_first h hn
 have e1 : cs ("end" : Str) = [101,110,100]:=by decide +kernel
 have e2 : cs ("part" : Str) = [112,97,114,116]:=by decide +kernel
 refine ⟨fun z=>?_,fun z=>?_⟩
 ·rw [z,e1] at e
  have:=(List.cons.inj e).1
  omega
 ·rw [z,e2] at e
  have:=(List.cons.inj e).1
  omega
theorem line_in {t : Th} (h : TOk t) (hn : ¬ ∃ n i,t = .part n i) : 10 ∉ cs (lineOf t) /\ 1 <= (lineOf t).length:=by
 obtain ⟨a,c,r,e,_⟩:=line_first h hn
 refine ⟨a,?_⟩
 rw [<- cs_len,e,List.length_cons]
 omega
def rem2 (H : Hp) (u l : Addr) : Hp:=fun b=>if b = u then none else if b = l then none else H b
theorem rem2_same (H : Hp) (u l : Addr) : Same (rem2 H u l) H:=fun b o e=>by
 unfold rem2 at e
 split at e
 ·cases e
 ·split at e
  ·cases e
  ·exact e
theorem rem2_of {H H' : Hp} {u l : Addr} (g : Same H H') (hu : H u = none) (hl : H l = none) : Same H (rem2 H' u l):=fun b o e=>by
 unfold rem2
 rw [if_neg (fun z=>by rw [z,hu] at e; cases e),if_neg (fun z=>by rw [z,hl] at e; cases e)]
 exact g b o e
theorem StR.mv {H0 H H' : Hp} {u : Addr} {st : Sk} {es : List (Addr × Addr)} (S : StR H0 H u st es) (g : Same H H') : StR H0 H' u st es:=⟨S.same.trans g,g _ _ S.hu,lvs_keep g.t S.lv fun e he o z=>g _ _ z,S.nd,S.fr⟩
theorem StR.opn {H0 H : Hp} {u : Addr} {st : Sk} {es : List (Addr × Addr)} (S : StR H0 H u st es) {l p : Addr} {n : Int} (hl : H l = none) (hp : upd H l (.lst []) p = none) :
  StR H0 (upd (upd (upd H l (.lst [])) p (.tup [.int n,.ref l])) u (.lst ((es.reverse.map fun e=>V.ref e.1) ++ [.ref p]))) u ((n,[]) :: st) ((p,l) :: es):=by
 have g1:=same_new hl (.lst [])
 have e1 : upd H l (.lst []) l = some (.lst []):=upd_same
 have nul : l ≠ u:=(ne_of_none S.hu hl).symm
 have nel : ∀ e ∈ es,e.2 ≠ l:=by
  intro e he z
  obtain ⟨j,hj⟩:=List.getElem?_of_mem he
  obtain ⟨x,_,_,xs,h2,_⟩:=paired_get S.lv hj
  rw [z,hl] at h2
  cases h2
 have fl:=S.same.free hl
 generalize upd H l (.lst []) = H1 at hp g1 e1 ⊢
 have g2:=same_new hp (.tup [.int n,.ref l])
 have e2 : upd H1 p (.tup [.int n,.ref l]) p = some (.tup [.int n,.ref l]):=upd_same
 generalize upd H1 p (.tup [.int n,.ref l]) = H2 at g2 e2 ⊢
 have S2:=S.mv (g1.trans g2)
 have gE : TSame H2 (upd H2 u (.lst ((es.reverse.map fun e=>V.ref e.1) ++ [.ref p]))):=TSame.lst S2.hu
 have nd:=S.nd
 rw [List.nodup_cons] at nd
 refine ⟨keep_upd (S.fr u List.mem_cons_self) S2.same _,by rw [upd_same,rev_ref],.cons ⟨gE _ _ e2,[],by rw [upd_ne nul]; exact g2 _ _ e1,.nil⟩ (lvs_keep gE S2.lv fun e he o z=>by rw [upd_ne (fun w=>nd.1 (List.mem_map.mpr ⟨e,he,w⟩))]; exact z),?_,fun a ha=>?_⟩
 ·rw [List.map_cons,List.nodup_cons,List.nodup_cons]
  refine ⟨fun z=>?_,fun z=>?_,nd.2⟩
  ·rcases List.mem_cons.mp z with z | z
   ·exact nul z.symm
   ·exact nd.1 z
  ·obtain ⟨e,he,z⟩:=List.mem_map.mp z
   exact nel e he z
 ·rcases List.mem_cons.mp ha with z | z
  ·rw [z]; exact S.fr u List.mem_cons_self
  ·rcases List.mem_cons.mp z with z | z
   ·rw [z]; exact fl
   ·exact S.fr a (List.mem_cons_of_mem _ z)
section
variable {P : Program} {w : World} {K : PySem.W.Frag} {mg : Str -> Option Value} {base : Heap} {f : Addr} {fd : FuncData}
theorem scRead : FnScope ["text","unended","number","at","row","thing"] ["text"] (defScope s_read):=⟨rfl,rfl,rfl,by decide +kernel,rfl,by decide +kernel,by decide +kernel⟩
end
end D
namespace D
open PySem L2
abbrev bmN : List Value:=[.type "ValueError",.type "Exception",.type "BaseException",.type "object"]
structure Tx (x : Str) : Prop where
 n : x.length <= 500000
 s : ∀ c ∈ cs x,c < 128
theorem mem_joinM {s p : Str} {c : Nat} : ∀ {ys : List Str},p ∈ ys -> c ∈ cs p -> c ∈ cs (Str.join s ys)
 | [y],h,hc=>by rw [List.mem_singleton.mp h] at hc; exact hc
 | y :: y2 :: r,h,hc=>by
  rw [cs_joinM]
  rcases List.mem_cons.mp h with z | z
  ·rw [z] at hc
   exact List.mem_append_left _ hc
  ·exact List.mem_append_right _ (List.mem_append_right _ (mem_joinM z hc))
theorem Tx.part {x s p : Str} (h : Tx x) (hp : p ∈ Txt.split x s) : Tx p :=
 ⟨Nat.le_trans (PyProof.Rows.part_short hp) h.n,fun c hc=>h.s c (by rw [<- StrLaws.join_split x s]; exact mem_joinM hp hc)⟩
def pW (x : Str) : Option (List Str):=if (Txt.split x " ").all isW = true then (if (Txt.split x " ").length <= 200 then some (Txt.split x " ") else none) else none
def okS (y : Str) : Bool:=decide (y = "") || isW y
def pB (x : Str) : Option (Str × Str):=match Txt.split x ">" with
 | [a,b]=>if (okS a && okS b) = true then some (a,b) else none
 | _=>none
structure TN (K : PySem.W.Frag) (mg : Str -> Option Value) (CN : Addr) : Prop where
 mN : mg "NoWord" = some (.ref CN)
 ex : PySem.W.excIn K CN bmN "ValueError.__new__" = true
 eN : PySem.W.exmOne K (.ref CN) (.ref CN) = some true
def spWOw (CN : Addr) : Sp:=fun vs H Q E=>∃ x : Str,vs = [.str x] /\ Tx x /\ ((Txt.split x " ").all isW = true -> ∀ r H',Same H H' -> H' r = some (.tup ((Txt.split x " ").map V.str)) -> Q (.ref r) H') /\ ((Txt.split x " ").all isW = false -> ∀ H',Same H H' -> E (.ref CN) none H')
def spRWw : Sp:=fun vs H Q _=>∃ x : Str,vs = [.str x] /\ Tx x /\ (∀ ws,pW x = some ws -> ∀ r H',Same H H' -> H' r = some (.tup (ws.map V.str)) -> Q (.ref r) H') /\ (pW x = none -> ∀ H',Same H H' -> Q .non H')
theorem all_atM {ys : List Str} {p : Str -> Bool} {i : Nat} {y : Str} (h : ys[i]? = some y) : (ys.take (i + 1)).all p = ((ys.take i).all p && p y):=by
 rw [List.take_add_one,h,List.all_append]
 simp
section
variable {P : Program} {w : World} {K : PySem.W.Frag} {mg : Str -> Option Value} {base : Heap} {f : Addr} {fd : FuncData} {CN : Addr}
theorem lenN : 10 * 500000 + 2 + (100 + 0) <= sizeLine:=by decide
set_option maxHeartbeats 4000000 in
theorem ok_wow (F : Fun K "words_of" "words_of" s_words_of f fd) (T : Tw K mg) (TT : TN K mg CN) (GW : Def P w K mg base CX0 1 "is_word" ["thing"] spWord) : FnOk P w K mg base (CXX P w) 2 f fd ["text"] (spWOw CN):=by
 refine F.okX scWO (fun vs H Q E h=>?_) (fun cdv A outer s H vs Q E hr h=>?_)
 ·obtain ⟨x,rfl,_⟩:=h
  rfl
 obtain ⟨x,rfl,hx,q1,q2⟩:=h
 refine ⟨_,pss_cons (ps_set (i:=1) scWO.nd rfl (Or.inl rfl) (pe_bm PySem.F.plainAttrs_str PySem.F.slot_str_split PySem.F.type_str_split mt_split (pv 0) (pa_cons pe_str pa_nil)))
  (pss_cons (ps_for PassesOwn.leaving rfl (pi_list (pv 1)) (pg_name (i:=2) scWO.nd rfl (Or.inl rfl))
   (pss_one (ps_if (pt_not (pt_val (pe_d0 GW hr (by decide) (pa_cons (pv 2) pa_nil))))
    (pss_one (ps_raise (E:=E) lies_def rfl rfl TT.mN TT.ex PySem.F.excBase_ValueError (pa_cons (pe_fstr (t:=fun σ _=>∃ (u v : Option V) (y : Str),σ = [u,v,some (.str y)] /\ Tx y)
     (pfs_cons (pf_repr (i:=2) (n:=500000) (pv 2) (fun σ _ h=>by obtain ⟨u,v,y,e,hy⟩:=h; exact ⟨y,by rw [e]; rfl,hy.n,fun c hc=>Nat.lt_trans (hy.s c hc) (by decide)⟩) (by decide)) (pfs_cons (pf_const (n:=100) (by decide +kernel)) pfs_nil)) lenN) pa_nil))) pss_nil)))
  (pss_one (ps_ret (pe_callTy call_tuple_of rfl T.tuple PyProof.Rows.boot_tuple (pa_cons (pv 1) pa_nil))))),?_⟩
 have hb : 2000000 <= sizeLine:=by decide
 have hxn:=hx.n
 refine ⟨_,rfl,rfl,x," ",rfl,rfl,by decide +kernel,by omega,fun p hp=>?_⟩
 have hparts : ∀ y ∈ Txt.split x " ",Tx y:=fun y hy=>hx.part hy
 generalize Txt.split x " " = ps at q1 q2 hparts ⊢
 have g0:=same_new hp (.lst (ps.map V.str))
 have h0 : upd H p (.lst (ps.map V.str)) p = some (.lst (ps.map V.str)):=upd_same
 generalize upd H p (.lst (ps.map V.str)) = H1 at g0 h0
 refine ⟨_,rfl,p,rfl,⟨_,SqL.of h0⟩,?_⟩
 refine for_list (K:=K) (a:=p) (xs:=ps.map V.str) (fun i σ' H'=>Same H1 H' /\ (∃ v,σ' = [some (.str x),some (.ref p),v]) /\ (ps.take i).all isW = true) ?_ (fun i σ' H' _ h=>SqL.of (h.1 _ _ h0)) ?_ ?_
 ·exact ⟨Same.refl _,⟨none,rfl⟩,rfl⟩
 ·rintro i y σ' H' hi ⟨g1,⟨v,rfl⟩,ha⟩
  rw [List.getElem?_map] at hi
  cases hy : ps[i]? with
  | none=>rw [hy] at hi; cases hi
  | some z =>
   rw [hy] at hi
   cases hi
   have hm : z ∈ ps:=List.mem_of_getElem? hy
   have hz:=hparts z hm
   have hzn:=hz.n
   refine ⟨_,rfl,_,rfl,by omega,fun H2 g2=>⟨_,rfl,?_⟩⟩
   cases hw : isW z with
   | true =>
    refine iteF ?_
    exact ⟨g1.trans g2,⟨_,rfl⟩,by rw [all_atM hy,ha,hw] <;> rfl⟩
   | false =>
    refine iteT ?_
    refine ⟨⟨_,_,z,rfl,hz⟩,fun y=>⟨(by show 1 <= sizeLine; decide),q2 ?_ H2 (g0.trans (g1.trans g2))⟩⟩
    rw [Bool.eq_false_iff]
    intro h
    rw [List.all_eq_true.mp h z hm] at hw
    cases hw
 ·rintro σ' H' ⟨g1,⟨v,rfl⟩,ha⟩
  rw [List.length_map,List.take_length] at ha
  refine ⟨_,rfl,p,_,rfl,.inl ⟨SqL.of (g1 _ _ h0),fun r hr1=>?_⟩⟩
  exact q1 ha r _ (g0.trans (g1.trans (same_new hr1 _))) upd_same
theorem ok_rww (F : Fun K "read_words" "read_words" s_read_words f fd) (T : Tw K mg) (TT : TN K mg CN) (GO : Def P w K mg base (CXX P w) 2 "words_of" ["text"] (spWOw CN)) : FnOk P w K mg base (CXX P w) 3 f fd ["text"] spRWw:=by
 refine F.okX scRWs (fun vs H Q E h=>?_) (fun cdv A outer s H vs Q E hr h=>?_)
 ·obtain ⟨x,rfl,_⟩:=h
  rfl
 obtain ⟨x,rfl,hx,q1,q2⟩:=h
 obtain ⟨tm,hm⟩:=T.words
 refine ⟨_,pss_cons (ps_try (Ex:=fun C _ H'=>C = .ref CN /\ Same H H' /\ (Txt.split x " ").all isW = false) rfl rfl rfl TT.mN
   (fun pn E' hp=>pss_one (ps_set (i:=1) scRWs.nd rfl (Or.inl rfl) (pe_defE GO (hr.mono (by decide)) hp (pa_cons (pv 0) pa_nil))))
   (fun e=>pss_one (ps_ret pe_non)))
  (pss_one (ps_ret (pe_ifExp (pt_cmpR op_le (pe_callB call_len_seq rfl T.len PySem.boot_len (pa_cons (pv 1) pa_nil)) (pe_glob (v:=.int 200) rfl hm ⟨_,rfl⟩) (nomark _)) (pv 1) pe_non))),?_⟩
 refine ⟨fun C d H' σ' hE _=>?_,?_⟩
 ·obtain ⟨rfl,g,hf⟩:=hE
  refine ⟨TT.eN,q2 ?_ H' g⟩
  unfold pW
  rw [if_neg (by rw [hf]; decide)]
 ·refine ⟨_,rfl,x,rfl,hx,fun ha r H1 g1 h1=>?_,fun ha H1 g1=>⟨rfl,g1,ha⟩⟩
  refine ⟨_,rfl,r,_,rfl,.inr (SqT.of h1),_,_,rfl,rfl,_,rfl,?_⟩
  rw [List.length_map]
  refine ite2 (fun d=>?_) (fun d=>?_)
  ·have d' : ((Txt.split x " ").length : Int) <= 200:=of_decide_eq_true d
   exact ⟨_,rfl,q1 _ (by unfold pW; rw [if_pos ha,if_pos (by omega)]) r H1 g1 h1⟩
  ·have d' : ¬ ((Txt.split x " ").length : Int) <= 200:=fun z=>d (decide_eq_true z)
   exact q2 (by unfold pW; rw [if_pos ha,if_neg (by omega)]) H1 g1
end
end D
namespace D
open PySem L2
def pBl : List Str -> Option (Str × Str)
 | [a,b]=>if (okS a && okS b) = true then some (a,b) else none
 | _=>none
theorem pB_eq (x : Str) : pB x = pBl (Txt.split x ">"):=by
 unfold pB pBl
 rfl
def mW (ps : List Str) : Nat:=(ps.takeWhile isW).length
def pPB (ps : List Str) : Option (List Str × List (Str × Str)) :=
 if 1 <= mW ps /\ mW ps <= 4 then (if (ps.drop (mW ps)).length <= 5 /\ ((ps.drop (mW ps)).all fun p=>(pB p).isSome) = true then some (ps.take (mW ps),(ps.drop (mW ps)).filterMap pB) else none) else none
def cpO (H : Hp) (p : Str) (v : V) : Prop:=(pB p = none /\ v = .non) ∨ ∃ b,pB p = some b /\ cpR H b v
theorem cpO.mono {H H' : Hp} {p : Str} {v : V} (h : cpO H p v) (g : TSame H H') : cpO H' p v:=by
 rcases h with h | ⟨b,e,h⟩
 ·exact .inl h
 ·exact .inr ⟨b,e,h.mono g⟩
theorem cpO_any {H : Hp} : ∀ {ps : List Str} {ys : List V},Paired (cpO H) ps ys -> ys.any isNon = !(ps.all fun p=>(pB p).isSome)
 | _,_,.nil=>rfl
 | p :: ps,y :: ys,.cons h r=>by
  rw [List.any_cons,List.all_cons,cpO_any r]
  rcases h with ⟨e,rfl⟩ | ⟨b,e,a,rfl,_⟩
  ·rw [e] <;> rfl
  ·rw [e]
   show (false || _) = !(true && _)
   simp
theorem cpO_all {H : Hp} : ∀ {ps : List Str} {ys : List V},Paired (cpO H) ps ys -> (ps.all fun p=>(pB p).isSome) = true -> Paired (cpR H) (ps.filterMap pB) ys
 | _,_,.nil,_=>.nil
 | p :: ps,y :: ys,.cons h r,ha=>by
  rw [List.all_cons,Bool.and_eq_true] at ha
  rcases h with ⟨e,rfl⟩ | ⟨b,e,hb⟩
  ·rw [e] at ha
   cases ha.1
  ·rw [List.filterMap_cons,e]
   exact .cons hb (cpO_all r ha.2)
def spRBx : Sp:=fun vs H Q _=>∃ x : Str,vs = [.str x] /\ Tx x /\ ∀ v H',Same H H' -> cpO H' x v -> Q v H'
def spRPBw : Sp:=fun vs H Q _=>∃ (a : Addr) (ps : List Str),vs = [.ref a] /\ H a = some (.lst (ps.map V.str)) /\ (∀ p ∈ ps,Tx p) /\ ps.length <= 1000000 /\
 (∀ ph bs,pPB ps = some (ph,bs) -> ∀ r x y H',Same H H' -> H' r = some (.tup [x,y]) -> wR H' ph x -> bR H' bs y -> Q (.ref r) H') /\ (pPB ps = none -> ∀ H',Same H H' -> Q .non H')
theorem mW_le (ps : List Str) : mW ps <= ps.length:=(List.takeWhile_sublist _).length_le
theorem take_mW : ∀ {ps : List Str} {i : Nat},(ps.take i).all isW = true -> i <= ps.length -> (∀ y,ps[i]? = some y -> isW y = false) -> mW ps = i
 | [],i,_,hi,_=>by
  have : i = 0:=by simpa using hi
  rw [this] <;> rfl
 | p :: r,0,_,_,hn=>by
  unfold mW
  rw [List.takeWhile_cons,hn p rfl] <;> rfl
 | p :: r,i + 1,ha,hi,hn=>by
  rw [List.take_succ_cons,List.all_cons,Bool.and_eq_true] at ha
  have:=take_mW (ps:=r) (i:=i) ha.2 (by simpa using hi) fun y hy=>hn y (by simpa using hy)
  unfold mW at this ⊢
  rw [List.takeWhile_cons,ha.1,if_pos rfl,List.length_cons,this]
section
variable {P : Program} {w : World} {K : PySem.W.Frag} {mg : Str -> Option Value} {base : Heap} {f : Addr} {fd : FuncData}
set_option maxHeartbeats 4000000 in
theorem ok_rbx (F : Fun K "read_bend" "read_bend" s_read_bend f fd) (T : Tw K mg) (GW : Def P w K mg base CX0 1 "is_word" ["thing"] spWord) : FnOk P w K mg base CX0 2 f fd ["piece"] spRBx:=by
 refine F.ok scRB (fun vs H Q E h=>?_) (fun cdv A outer s H vs Q E hr h=>?_)
 ·obtain ⟨x,rfl,_⟩:=h
  rfl
 obtain ⟨x,rfl,hx,q⟩:=h
 refine ⟨_,pss_cons (ps_set (i:=1) scRB.nd rfl (Or.inl rfl) (pe_bm PySem.F.plainAttrs_str PySem.F.slot_str_split PySem.F.type_str_split mt_split (pv 0) (pa_cons pe_str pa_nil)))
  (pss_cons (ps_if (pt_cmpR op_ne (pe_callB call_len_seq rfl T.len PySem.boot_len (pa_cons (pv 1) pa_nil)) pe_int (nomark _)) (pss_one (ps_ret pe_non)) pss_nil)
  (pss_cons (ps_for PassesOwn.never rfl (pi_list (pv 1)) (pg_name (i:=2) scRB.nd rfl (Or.inl rfl))
   (pss_one (ps_if (PW.pt (pw_and (pt_cmpR op_ne (pv 2) pe_str (nomark _)) (pw_and1 (pt_not (pt_val (pe_def GW hr (pa_cons (pv 2) pa_nil))))))) (pss_one (ps_ret pe_non)) pss_nil)))
  (pss_one (ps_ret (pe_callTy call_tuple_of rfl T.tuple PyProof.Rows.boot_tuple (pa_cons (pv 1) pa_nil)))))),?_⟩
 have hb : 2000000 <= sizeLine:=by decide
 have hxn:=hx.n
 refine ⟨_,rfl,rfl,x,">",rfl,rfl,by decide +kernel,by omega,fun p hp=>?_⟩
 have hparts : ∀ y ∈ Txt.split x ">",Tx y:=fun y hy=>hx.part hy
 have hpb:=pB_eq x
 generalize Txt.split x ">" = ps at hparts hpb ⊢
 have g0:=same_new hp (.lst (ps.map V.str))
 have h0 : upd H p (.lst (ps.map V.str)) p = some (.lst (ps.map V.str)):=upd_same
 generalize upd H p (.lst (ps.map V.str)) = H1 at g0 h0
 refine ⟨_,rfl,p,_,rfl,.inl (SqL.of h0),rfl,_,rfl,?_⟩
 rw [List.length_map]
 refine ite2 (fun z=>?_) (fun z=>?_)
 ·refine q _ H1 g0 (.inl ⟨?_,rfl⟩)
  rw [hpb]
  match ps,z with
  | [],_=>rfl
  | [_],_=>rfl
  | [_,_],z=>exact absurd z (show ¬ (!decide (V.int ((2 : Nat) : Int) = V.int 2)) = true by decide)
  | _ :: _ :: _ :: _,_=>rfl
 ·have l2 : ps.length = 2:=by
   have z : (!decide (V.int (ps.length : Int) = V.int 2)) = false:=Bool.eq_false_iff.mpr z
   rw [Bool.not_eq_false'] at z
   have:=V.int.inj (of_decide_eq_true z)
   omega
  refine ⟨_,rfl,p,rfl,⟨_,SqL.of h0⟩,?_⟩
  refine for_list (K:=K) (a:=p) (xs:=ps.map V.str) (fun i σ' H'=>Same H1 H' /\ (∃ v,σ' = [some (.str x),some (.ref p),v]) /\ (ps.take i).all okS = true) ?_ (fun i σ' H' _ h=>SqL.of (h.1 _ _ h0)) ?_ ?_
  ·exact ⟨Same.refl _,⟨none,rfl⟩,rfl⟩
  ·rintro i y σ' H' hi ⟨g1,⟨v,rfl⟩,ha⟩
   rw [List.getElem?_map] at hi
   cases hy : ps[i]? with
   | none=>rw [hy] at hi; cases hi
   | some z =>
    rw [hy] at hi
    cases hi
    have hm:=List.mem_of_getElem? hy
    have hz1:=(hparts z hm).n
    have bad : okS z = false -> pBl ps = none:=fun hbad=>by
     match ps,l2,hm with
     | [a,b],_,hm =>
      show (if (okS a && okS b) = true then some (a,b) else none) = none
      rw [if_neg]
      intro h
      rw [Bool.and_eq_true] at h
      simp only [List.mem_cons,List.not_mem_nil,or_false] at hm
      rcases hm with rfl | rfl
      ·rw [hbad] at h; cases h.1
      ·rw [hbad] at h; cases h.2
    refine ⟨_,rfl,rfl,_,rfl,?_⟩
    refine ite2 (fun c=>?_) (fun c=>?_)
    ·have cne : ¬ z = "":=fun e=>by rw [e] at c; exact absurd c (by decide)
     refine ⟨_,rfl,_,rfl,by omega,fun H2 g2=>⟨_,rfl,?_⟩⟩
     cases hw : isW z with
     | true=>exact iteF ⟨g1.trans g2,⟨_,rfl⟩,by rw [all_atM hy,ha]; unfold okS; rw [hw,Bool.or_true] <;> rfl⟩
     | false =>
      refine iteT (q _ H2 ((g0.trans g1).trans g2) (.inl ⟨?_,rfl⟩))
      rw [hpb]
      exact bad (by unfold okS; rw [hw,decide_eq_false cne] <;> rfl)
    ·have ce : z = "":=by
      have c : (!decide (V.str z = V.str "")) = false:=Bool.eq_false_iff.mpr c
      rw [Bool.not_eq_false'] at c
      exact V.str.inj (of_decide_eq_true c)
     refine iteF ⟨g1,⟨_,rfl⟩,?_⟩
     rw [all_atM hy,ha]
     unfold okS
     rw [decide_eq_true ce] <;> rfl
  ·rintro σ' H' ⟨g1,⟨v,rfl⟩,ha⟩
   rw [List.length_map,List.take_length] at ha
   refine ⟨_,rfl,p,_,rfl,.inl ⟨SqL.of (g1 _ _ h0),fun r hr1=>?_⟩⟩
   match ps,l2,ha,hpb with
   | [a,b],_,ha,hpb =>
    refine q _ _ (g0.trans (g1.trans (same_new hr1 _))) (.inr ⟨(a,b),?_,r,rfl,upd_same⟩)
    rw [hpb]
    show (if (okS a && okS b) = true then some (a,b) else none) = _
    rw [if_pos]
    simpa using ha
end
end D
namespace D
open PySem L2
section
variable {P : Program} {w : World} {K : PySem.W.Frag} {mg : Str -> Option Value} {base : Heap} {f : Addr} {fd : FuncData}
set_option maxHeartbeats 8000000 in
theorem ok_rpbw (F : Fun K "read_phrase_and_bends" "read_phrase_and_bends" s_read_phrase_and_bends f fd) (T : Tw K mg) (GW : Def P w K mg base CX0 1 "is_word" ["thing"] spWord) (GB : Def P w K mg base CX0 2 "read_bend" ["piece"] spRBx) : FnOk P w K mg base CX0 3 f fd ["pieces"] spRPBw:=by
 refine F.ok scRPB (fun vs H Q E h=>?_) (fun cdv A outer s H vs Q E hr h=>?_)
 ·obtain ⟨a,ps,rfl,_⟩:=h
  rfl
 obtain ⟨a,ps,rfl,ha,hps,hpl,q1,q2⟩:=h
 obtain ⟨tp,hp4⟩:=T.phrase
 obtain ⟨tb,hb5⟩:=T.bends
 have hu : (A.deeper (PyProof.Rows.envOfC "read_phrase_and_bends" (defScope s_read_phrase_and_bends) s.heap.objs.size f cdv)).in1.units < cLine:=by
  have:=hr.units
  show (A.deeper (PyProof.Rows.envOfC "read_phrase_and_bends" (defScope s_read_phrase_and_bends) s.heap.objs.size f cdv)).units + 1 < cLine
  omega
 refine ⟨_,pss_cons (ps_set (i:=1) scRPB.nd rfl (Or.inl rfl) pe_int)
  (pss_cons (ps_while PassesOwn.never (PW.pt (pw_and (pt_cmpR op_lt (pv 1) (pe_callB call_len_seq rfl T.len PySem.boot_len (pa_cons (pv 0) pa_nil)) (nomark _)) (pw_and1 (pt_val (pe_def GW (hr.mono (by decide)) (pa_cons (pe_ix ix_list (pv 0) (pv 1) (fun _ _=>rfl)) pa_nil))))))
   (pss_one (ps_aug (i:=1) scRPB.nd rfl (Or.inl rfl) pe_int ip_add)))
  (pss_cons (ps_if (PW.pt (pw_or (pt_cmpR op_lt (pv 1) pe_int (nomark _)) (pw_or1 (pt_cmpR op_gt (pv 1) (pe_glob (v:=.int 4) rfl hp4 ⟨_,rfl⟩) (nomark _))))) (pss_one (ps_ret pe_non)) pss_nil)
  (pss_cons (ps_set (i:=2) scRPB.nd rfl (Or.inl rfl) (pe_callTy call_tuple_of rfl T.tuple PyProof.Rows.boot_tuple (pa_cons (pe_comp NPB (defScope s_read_phrase_and_bends) rfl (by decide +kernel) (by decide +kernel) (pi_list (pe_slice sl_list (pv 0) (po_some (pv 1)) po_none)) (fun _ _ _ _ _=>pts_nil)
   (fun _ _ _ _ _=>pe_def GB (hr.mono (by decide)) (pa_cons (pv 3) pa_nil))) pa_nil)))
  (pss_cons (ps_if (PW.pt (pw_or (pt_cmpR op_gt (pe_callB call_len_seq rfl T.len PySem.boot_len (pa_cons (pv 2) pa_nil)) (pe_glob (v:=.int 5) rfl hb5 ⟨_,rfl⟩) (nomark _)) (pw_or1 (pt_cmpR (op_inNoneW hu) pe_non (pv 2) (by with_unfolding_all rfl))))) (pss_one (ps_ret pe_non)) pss_nil)
  (pss_one (ps_ret (pe_tup (pa_cons (pe_callTy call_tuple_of rfl T.tuple PyProof.Rows.boot_tuple (pa_cons (pe_slice sl_list (pv 0) po_none (po_some (pv 1))) pa_nil)) (pa_cons (pv 2) pa_nil))))))))),?_⟩
 have hb : 2000000 <= sizeLine:=by decide
 have lp : (ps.map V.str).length = ps.length:=List.length_map _
 have hmle:=mW_le ps
 refine while_post (fun m σ' H'=>∃ i : Nat,σ' = [some (.ref a),some (.int (i : Nat)),none] /\ Same H H' /\ i <= ps.length /\ (ps.take i).all isW = true /\ m = ps.length - i) (fun σ' H'=>σ' = [some (.ref a),some (.int (mW ps : Nat)),none] /\ Same H H') ⟨_,0,rfl,Same.refl H,Nat.zero_le _,rfl,rfl⟩ ?loop ?rest
 case rest =>
  rintro σ' H1 ⟨rfl,g1⟩
  have ha1:=g1 _ _ ha
  have bad : ¬ (1 <= mW ps /\ mW ps <= 4) -> pPB ps = none:=fun z=>by unfold pPB; rw [if_neg z]
  refine ⟨_,rfl,_,_,rfl,rfl,_,rfl,?_⟩
  refine ite2 (fun z=>?_) (fun z1=>?_)
  ·have z : ((mW ps : Nat) : Int) < 1:=of_decide_eq_true z
   exact iteT (q2 (bad (by omega)) H1 g1)
  have z1 : ¬ ((mW ps : Nat) : Int) < 1:=fun z=>z1 (decide_eq_true z)
  refine ⟨_,rfl,_,_,rfl,rfl,_,rfl,?_⟩
  refine ite2 (fun z=>?_) (fun z2=>?_)
  ·have z : (4 : Int) < ((mW ps : Nat) : Int):=of_decide_eq_true z
   exact q2 (bad (by omega)) H1 g1
  have z2 : ¬ (4 : Int) < ((mW ps : Nat) : Int):=fun z=>z2 (decide_eq_true z)
  have hgood : 1 <= mW ps /\ mW ps <= 4:=⟨by omega,by omega⟩
  refine ⟨_,rfl,_,rfl,_,rfl,a,_,rfl,SqL.of ha1,fun p hp=>?_⟩
  rw [cutV_fromM _ (by omega)]
  have ed : (ps.map V.str).drop ((mW ps : Nat) : Int).toNat = (ps.drop (mW ps)).map V.str:=by
   rw [show ((mW ps : Nat) : Int).toNat = mW ps by omega,List.map_drop]
  rw [ed]
  have g2:=same_new hp (.lst ((ps.drop (mW ps)).map V.str))
  have e2 : upd H1 p (.lst ((ps.drop (mW ps)).map V.str)) p = some (.lst ((ps.drop (mW ps)).map V.str)):=upd_same
  generalize upd H1 p (.lst ((ps.drop (mW ps)).map V.str)) = H2 at g2 e2 ⊢
  refine ⟨p,rfl,⟨_,SqL.of e2⟩,?_⟩
  have el : ((ps.drop (mW ps)).map V.str).length = (ps.drop (mW ps)).length:=List.length_map _
  have eld : (ps.drop (mW ps)).length <= ps.length:=by rw [List.length_drop]; omega
  refine comp_listM (K:=K) (a:=p) (xs:=(ps.drop (mW ps)).map V.str) (fun i ys H'=>Same H2 H' /\ Paired (cpO H') ((ps.drop (mW ps)).take i) ys) (by omega) ⟨Same.refl _,.nil⟩ (fun i ys H' hi h=>⟨SqL.of (h.1 _ _ e2),by rw [<- paired_lenM h.2,List.length_take]; omega⟩) ?_ ?_
  ·rintro i x ys H' hx ⟨g3,hp3⟩ KY hK
   rw [List.getElem?_map] at hx
   cases hbi : (ps.drop (mW ps))[i]? with
   | none=>rw [hbi] at hx; cases hx
   | some y =>
    rw [hbi] at hx
    cases hx
    refine ⟨_,rfl,y,rfl,hps y (List.mem_of_mem_drop (List.mem_of_getElem? hbi)),fun v H4 g4 h4=>hK _ _ ⟨g3.trans g4,?_⟩⟩
    rw [List.take_add_one,hbi]
    exact paired_snocM (Paired.mapP hp3 fun _ _ z=>z.mono g4.t) h4
  ·rintro ys H' ⟨g3,hp3⟩ l hl
   rw [el,List.take_length] at hp3
   have g4:=same_new hl (.lst ys)
   refine ⟨l,ys,rfl,.inl ⟨SqL.of upd_same,fun r hr1=>?_⟩⟩
   have g5:=g4.trans (same_new hr1 (.tup ys))
   have e5 : upd (upd H' l (.lst ys)) r (.tup ys) r = some (.tup ys):=upd_same
   generalize upd (upd H' l (.lst ys)) r (.tup ys) = H5 at g5 e5
   have hp5 : Paired (cpO H5) (ps.drop (mW ps)) ys:=Paired.mapP hp3 fun _ _ z=>z.mono g5.t
   have yl:=paired_lenM hp5
   have gA:=((g1.trans g2).trans g3).trans g5
   refine ⟨_,rfl,r,_,rfl,.inr (SqT.of e5),_,_,rfl,rfl,_,rfl,?_⟩
   refine ite2 (fun z=>?_) (fun z5=>?_)
   ·have z : (5 : Int) < ((ys.length : Nat) : Int):=of_decide_eq_true z
    refine iteT (q2 ?_ H5 gA)
    unfold pPB
    rw [if_pos hgood,if_neg (by omega)]
   have z5 : ¬ (5 : Int) < ((ys.length : Nat) : Int):=fun z=>z5 (decide_eq_true z)
   refine ⟨_,rfl,r,ys,rfl,rfl,SqT.of e5,fun v hv=>?_,_,rfl,?_⟩
   ·obtain ⟨j,hj⟩:=List.getElem?_of_mem hv
    obtain ⟨b,_,hcp⟩:=paired_get hp5 hj
    rcases hcp with ⟨_,e⟩ | ⟨_,_,ca,e,hca⟩
    ·exact .inl e
    ·exact .inr ⟨ca,_,e,SqT.of hca⟩
   rw [cpO_any hp5]
   cases hall : (ps.drop (mW ps)).all fun p=>(pB p).isSome with
   | false =>
    refine iteT (q2 ?_ H5 gA)
    unfold pPB
    rw [if_pos hgood,if_neg (by rw [hall]; intro z; cases z.2)]
   | true =>
    refine iteF ?_
    have hpb : pPB ps = some (ps.take (mW ps),(ps.drop (mW ps)).filterMap pB):=by
     unfold pPB
     rw [if_pos hgood,if_pos ⟨by omega,hall⟩]
    refine ⟨_,rfl,_,rfl,_,rfl,a,_,rfl,SqL.of (gA _ _ ha),fun p6 hp6=>?_⟩
    rw [cutV_toM _ (by omega)]
    have et : (ps.map V.str).take ((mW ps : Nat) : Int).toNat = (ps.take (mW ps)).map V.str:=by
     rw [show ((mW ps : Nat) : Int).toNat = mW ps by omega,List.map_take]
    rw [et]
    have g6:=same_new hp6 (.lst ((ps.take (mW ps)).map V.str))
    refine ⟨p6,_,rfl,.inl ⟨SqL.of upd_same,fun p7 hp7=>?_⟩⟩
    have g7:=g6.trans (same_new hp7 (.tup ((ps.take (mW ps)).map V.str)))
    have e7 : upd (upd H5 p6 (.lst ((ps.take (mW ps)).map V.str))) p7 (.tup ((ps.take (mW ps)).map V.str)) p7 = some (.tup ((ps.take (mW ps)).map V.str)):=upd_same
    generalize upd (upd H5 p6 (.lst ((ps.take (mW ps)).map V.str))) p7 (.tup ((ps.take (mW ps)).map V.str)) = H7 at g7 e7
    refine ⟨_,rfl,(by show 2 <= sizeLine; decide),fun r8 hr8=>?_⟩
    have g8:=same_new hr8 (.tup [.ref p7,.ref r])
    exact q1 _ _ hpb r8 _ _ _ ((gA.trans g7).trans g8) upd_same ⟨p7,rfl,g8 _ _ e7⟩ ⟨r,ys,rfl,g8 _ _ (g7 _ _ e5),cpO_all (Paired.mapP hp5 fun _ _ z=>z.mono (g7.trans g8).t) hall⟩
 rintro R hR m σ' H1 ⟨i,rfl,g1,hi,hal,rfl⟩
 have ha1:=g1 _ _ ha
 refine ⟨_,rfl,_,rfl,a,_,rfl,.inl (SqL.of ha1),_,_,rfl,rfl,_,rfl,?_⟩
 rw [lp]
 refine ite2 (fun c=>?_) (fun c=>?_)
 ·have c' : (i : Int) < ((ps.length : Nat) : Int):=of_decide_eq_true c
  have hlt : i < ps.length:=by omega
  have hx : atI (ps.map V.str) (i : Nat) = some (.str ps[i]):=atI_nat (by rw [List.getElem?_map,List.getElem?_eq_getElem hlt] <;> rfl)
  have hw:=(hps _ (List.getElem_mem hlt)).n
  refine ⟨_,rfl,_,rfl,a,_,_,_,rfl,rfl,SqL.of ha1,hx,_,rfl,by omega,fun H2 g2=>⟨_,rfl,?_⟩⟩
  cases hwi : isW ps[i] with
  | true =>
   refine iteT ⟨fun σ' H'=>∃ m',m' < ps.length - i /\ ∃ i : Nat,σ' = [some (.ref a),some (.int (i : Nat)),none] /\ Same H H' /\ i <= ps.length /\ (ps.take i).all isW = true /\ m' = ps.length - i,fun _ _ h=>h,?_⟩
   refine ⟨_,rfl,_,_,rfl,rfl,?_⟩
   exact ⟨ps.length - (i + 1),by omega,i + 1,rfl,g1.trans g2,hlt,by rw [all_atM (List.getElem?_eq_getElem hlt),hal,hwi] <;> rfl,rfl⟩
  | false =>
   refine iteF (hR _ _ ⟨?_,g1.trans g2⟩)
   rw [take_mW hal hi fun y hy=>by rw [List.getElem?_eq_getElem hlt] at hy; cases hy; exact hwi]
 ·have c' : ¬ (i : Int) < ((ps.length : Nat) : Int):=of_decide_eq_false (Bool.eq_false_iff.mpr c)
  refine iteF (hR _ _ ⟨?_,g1⟩)
  rw [take_mW hal hi fun y hy=>by rw [List.getElem?_eq_none (by omega)] at hy; cases hy]
end
end D
namespace D
open PySem L2
def okF (l : Str) (cp : Str × Str) : Bool:=endsC l cp.1 && (decide (1 <= (formW l cp).length) && decide ((formW l cp).length <= 20))
structure TF (K : PySem.W.Frag) (mg : Str -> Option Value) (CF : Addr) : Prop where
 mF : mg "NoForm" = some (.ref CF)
 ex : PySem.W.excIn K CF bmN "ValueError.__new__" = true
 eF : PySem.W.exmOne K (.ref CF) (.ref CF) = some true
theorem isW_len {x : Str} (h : allGood x) : isW x = (decide (1 <= x.length) && decide (x.length <= 20)):=by
 unfold isW
 rw [show x.cps.toList.all good = true from h,Bool.and_true]
theorem formW_len {l : Str} {cp : Str × Str} (h1 : l.length <= 20) (h2 : cp.2.length <= 20) : (formW l cp).length <= 40:=by
 unfold formW
 rw [len_mk,List.length_append,List.length_take,cs_len,cs_len]
 omega
def spBentW (CF : Addr) : Sp:=fun vs H Q E=>∃ (a b : Addr) (ws : List Str) (l : Str) (cp : Str × Str),vs = [.ref a,.ref b] /\ H a = some (.tup ((ws ++ [l]).map V.str)) /\ H b = some (.tup [.str cp.1,.str cp.2]) /\ ws.length <= 4 /\ Wd l /\ BdOk cp /\
 (okF l cp = true -> ∀ r H',Same H H' -> H' r = some (.tup ((ws ++ [formW l cp]).map V.str)) -> Q (.ref r) H') /\ (okF l cp = false -> ∀ H',Same H H' -> E (.ref CF) none H')
section
variable {P : Program} {w : World} {K : PySem.W.Frag} {mg : Str -> Option Value} {base : Heap} {f : Addr} {fd : FuncData} {CF : Addr}
theorem lenF1 : 10 * 21 + 2 + (100 + (10 * 21 + 2 + 0)) <= sizeLine:=by decide
theorem lenF2 : 10 * 40 + 2 + (100 + 0) <= sizeLine:=by decide
set_option maxHeartbeats 4000000 in
theorem ok_bentW (F : Fun K "bent" "bent" s_bent f fd) (T : Tw K mg) (TT : TF K mg CF) (GW : Def P w K mg base CX0 1 "is_word" ["thing"] spWord) : FnOk P w K mg base (CXX P w) 2 f fd ["phrase","bend"] (spBentW CF):=by
 refine F.okX scBent (fun vs H Q E h=>?_) (fun cdv A outer s H vs Q E hr h=>?_)
 ·obtain ⟨a,b,ws,l,cp,rfl,_⟩:=h
  rfl
 obtain ⟨a,b,ws,l,cp,rfl,ha,hb0,nw,hl,hB,q1,q2⟩:=h
 have hb : 2000000 <= sizeLine:=by decide
 have l20:=hl.2.1
 have c20:=hB.1
 have p20:=hB.2.1
 refine ⟨_,pss_cons (ps_set (i:=2) scBent.nd rfl (Or.inl rfl) (pe_ix ix_tup (pv 0) (pe_un un_neg pe_int) (fun _ _=>rfl)))
  (pss_cons (ps_set (i:=3) scBent.nd rfl (Or.inl rfl) (pe_ix ix_tup (pv 1) pe_int (fun _ _=>rfl)))
  (pss_cons (ps_if (pt_not (pt_val (pe_bm PySem.F.plainAttrs_str PySem.F.slot_str_endswith PySem.F.type_str_endswith mt_ends (pv 2) (pa_cons (pv 3) pa_nil))))
   (pss_one (ps_raise (E:=E) lies_def rfl rfl TT.mF TT.ex PySem.F.excBase_ValueError (pa_cons (pe_fstr (t:=fun σ _=>σ = [some (.ref a),some (.ref b),some (.str l),some (.str cp.1),none])
    (pfs_cons (pf_repr (i:=2) (n:=21) (pv 2) (fun σ _ h=>⟨l,by rw [h]; rfl,Nat.le_succ_of_le l20,hl.2.2.small⟩) (by decide)) (pfs_cons (pf_const (n:=100) (by decide +kernel)) (pfs_cons (pf_repr (i:=3) (n:=21) (pv 3) (fun σ _ h=>⟨cp.1,by rw [h]; rfl,Nat.le_succ_of_le c20,hB.2.2.1.small⟩) (by decide)) pfs_nil))) lenF1) pa_nil))) pss_nil)
  (pss_cons (ps_set (i:=4) scBent.nd rfl (Or.inl rfl) (pe_op op_add_str (pe_slice sl_str (pv 2) po_none (po_some (pe_op op_sub (pe_callB call_len_str rfl T.len PySem.boot_len (pa_cons (pv 2) pa_nil)) (pe_callB call_len_str rfl T.len PySem.boot_len (pa_cons (pv 3) pa_nil))))) (pe_ix ix_tup (pv 1) pe_int (fun _ _=>rfl))))
  (pss_cons (ps_if (pt_not (pt_val (pe_d0 GW hr (by decide) (pa_cons (pv 4) pa_nil))))
   (pss_one (ps_raise (E:=E) lies_def rfl rfl TT.mF TT.ex PySem.F.excBase_ValueError (pa_cons (pe_fstr (t:=fun σ _=>σ = [some (.ref a),some (.ref b),some (.str l),some (.str cp.1),some (.str (formW l cp))])
    (pfs_cons (pf_repr (i:=4) (n:=40) (pv 4) (fun σ _ h=>⟨formW l cp,by rw [h]; rfl,formW_len l20 p20,(formW_good hl.2.2 hB.2.2.2).small⟩) (by decide)) (pfs_cons (pf_const (n:=100) (by decide +kernel)) pfs_nil)) lenF2) pa_nil))) pss_nil)
  (pss_one (ps_ret (pe_op (OpR.or op_catT0 op_catT) (pe_slice sl_tup (pv 0) po_none (po_some (pe_un un_neg pe_int))) (pe_tup (pa_cons (pv 4) pa_nil))))))))),?_⟩
 have zl : l.length <= sizeLine:=by omega
 have zc : cp.1.length <= sizeLine:=by omega
 have em : (ws ++ [l]).map V.str = ws.map V.str ++ [.str l]:=by rw [List.map_append] <;> rfl
 have ha' : SqT K H a (ws.map V.str ++ [.str l]):=SqT.of (by rw [<- em]; exact ha)
 refine ⟨_,rfl,1,rfl,a,_,_,_,rfl,rfl,ha',atI_last _ _,?_⟩
 refine ⟨_,rfl,b,_,_,_,rfl,rfl,SqT.of hb0,rfl,?_⟩
 refine ⟨_,rfl,rfl,_,rfl,l,cp.1,rfl,rfl,_,rfl,?_⟩
 cases he : endsC l cp.1 with
 | false =>
  refine iteT ⟨rfl,fun y=>⟨(by show 1 <= sizeLine; decide),q2 ?_ H (Same.refl H)⟩⟩
  unfold okF
  rw [he] <;> rfl
 | true =>
  refine iteF ?_
  have f1 : cp.1.length <= l.length:=by
   have he:=he
   unfold endsC at he
   simp only [Bool.and_eq_true,decide_eq_true_eq] at he
   exact he.1
  refine ⟨_,rfl,_,rfl,l,rfl,zl,_,rfl,cp.1,rfl,zc,_,_,rfl,rfl,_,rfl,l,rfl,zl,_,rfl,b,_,_,_,rfl,rfl,SqT.of hb0,rfl,_,_,rfl,rfl,?_,?_⟩
  ·rw [len_mk,cut_to _ (by omega),List.length_take,cs_len]
   omega
  ·rw [formW_eq (cp:=cp) (show (0 : Int) <= (l.length : Int) - (cp.1.length : Int) by omega) rfl]
   have hng:=formW_good (cp:=cp) hl.2.2 hB.2.2.2
   have hnz:=formW_len (cp:=cp) l20 p20
   refine ⟨_,rfl,_,rfl,by omega,fun H1 g1=>⟨_,rfl,?_⟩⟩
   have eW:=isW_len hng
   cases hw : isW (formW l cp) with
   | false =>
    refine iteT ⟨rfl,fun y=>⟨(by show 1 <= sizeLine; decide),q2 ?_ H1 g1⟩⟩
    unfold okF
    rw [<- eW,hw,Bool.and_false]
   | true =>
    refine iteF ?_
    refine snoc_rd (xs:=ws.map V.str) (l:=.str l) (z:=.str (formW l cp)) rfl (g1.seqT ha') (by rw [List.length_map]; omega) (fun H2 g2 Q1 hq=>⟨_,rfl,hq⟩) (fun r H' g h=>q1 ?_ r H' (g1.trans g) ?_)
    ·unfold okF
     rw [he,<- eW,hw] <;> rfl
    ·rw [h,List.map_append] <;> rfl
end
end D
namespace D
open PySem L2
def fmF (ws : List Str) (l : Str) : List (List Str) -> List (Str × Str) -> Option (List (List Str))
 | acc,[]=>some acc
 | acc,cp :: r=>if okF l cp = true then (if ws ++ [formW l cp] ∈ acc then none else fmF ws l (acc ++ [ws ++ [formW l cp]]) r) else none
theorem fmF_bad {ws : List Str} {l : Str} {acc : List (List Str)} {cp : Str × Str} {r : List (Str × Str)} (h : okF l cp = false) : fmF ws l acc (cp :: r) = none:=by
 unfold fmF
 rw [if_neg (by rw [h]; decide)]
theorem fmF_twice {ws : List Str} {l : Str} {acc : List (List Str)} {cp : Str × Str} {r : List (Str × Str)} (h : okF l cp = true) (hm : ws ++ [formW l cp] ∈ acc) : fmF ws l acc (cp :: r) = none:=by
 unfold fmF
 rw [if_pos h,if_pos hm]
theorem fmF_go {ws : List Str} {l : Str} {acc : List (List Str)} {cp : Str × Str} {r : List (Str × Str)} (h : okF l cp = true) (hm : ws ++ [formW l cp] ∉ acc) : fmF ws l acc (cp :: r) = fmF ws l (acc ++ [ws ++ [formW l cp]]) r:=by
 conv=>lhs; unfold fmF
 rw [if_pos h,if_neg hm]
def spFormsW (CF : Addr) : Sp:=fun vs H Q E=>∃ (a : Addr) (v : V) (ws : List Str) (l : Str) (bs : List (Str × Str)),vs = [.ref a,v] /\ H a = some (.tup ((ws ++ [l]).map V.str)) /\ bR H bs v /\ ws.length <= 4 /\ (∀ x ∈ ws,Wd x) /\ Wd l /\ (∀ b ∈ bs,BdOk b) /\ bs.length <= 100 /\
 (fmF ws l [ws ++ [l]] bs ≠ none -> ∀ r H',Same H H' -> Q r H') /\ (fmF ws l [ws ++ [l]] bs = none -> ∀ H',Same H H' -> E (.ref CF) none H')
def spHasW : Sp:=fun vs H Q _=>∃ (a : Addr) (v : V) (ws : List Str) (l : Str) (bs : List (Str × Str)),vs = [.ref a,v] /\ H a = some (.tup ((ws ++ [l]).map V.str)) /\ bR H bs v /\ ws.length <= 4 /\ (∀ x ∈ ws,Wd x) /\ Wd l /\ (∀ b ∈ bs,BdOk b) /\ bs.length <= 100 /\
 ∀ H',Same H H' -> Q (.bl (fmF ws l [ws ++ [l]] bs).isSome) H'
section
variable {P : Program} {w : World} {K : PySem.W.Frag} {mg : Str -> Option Value} {base : Heap} {f : Addr} {fd : FuncData} {CF : Addr}
theorem dec_yesM {p : Prop} (h : p) (i : Decidable p) : @decide p i = true:=@decide_eq_true p i h
theorem msgF : 100 + (101 * (10 * 40 + 4) + 3 + 0) <= sizeLine:=by decide
theorem msgF1 : 10 * 40 + 2 <= sizeLine:=by decide
theorem msgF2 : 101 * (10 * 40 + 4) + 3 <= sizeLine:=by decide
set_option maxHeartbeats 4000000 in
theorem ok_formsW (F : Fun K "forms" "forms" s_forms f fd) (T : Tw K mg) (TT : TF K mg CF) (GB : Def P w K mg base (CXX P w) 2 "bent" ["phrase","bend"] (spBentW CF)) : FnOk P w K mg base (CXX P w) 3 f fd ["phrase","bends"] (spFormsW CF):=by
 refine F.okX scForms (fun vs H Q E h=>?_) (fun cdv A outer s H vs Q E hr h=>?_)
 ·obtain ⟨a,b,ws,l,cps,rfl,_⟩:=h
  rfl
 obtain ⟨a,v,ws,l,bs,rfl,ha,⟨b,bxs,rfl,hbx,hbp⟩,nw,hws,hl,hB,hn,q1,q2⟩:=h
 have hu : (A.deeper (PyProof.Rows.envOfC "forms" (defScope s_forms) s.heap.objs.size f cdv)).in1.units < cLine:=by
  have:=hr.units
  show (A.deeper (PyProof.Rows.envOfC "forms" (defScope s_forms) s.heap.objs.size f cdv)).units + 1 < cLine
  omega
 refine ⟨_,pss_cons (ps_set (i:=2) scForms.nd rfl (Or.inl rfl) (pe_lst (pa_cons (pv 0) pa_nil)))
  (pss_cons (ps_for PassesOwn.leaving rfl (pi_tup (pv 1)) (pg_name (i:=3) scForms.nd rfl (Or.inl rfl))
   (pss_cons (ps_set (i:=4) scForms.nd rfl (Or.inl rfl) (pe_defE (E:=E) GB hr (passes_def fun _ _ _ h=>h) (pa_cons (pv 0) (pa_cons (pv 3) pa_nil))))
   (pss_cons (ps_if (pt_cmpR (op_inLst (eqok_tup eqok_str hu)) (pv 4) (pv 2) (by with_unfolding_all rfl))
    (pss_one (ps_raise (E:=E) lies_def rfl rfl TT.mF TT.ex PySem.F.excBase_ValueError (pa_cons (pe_fstr (t:=fun σ H=>∃ (u0 u1 u2 u3 : Option V) (r : Addr) (ys : List Str),σ = [u0,u1,u2,u3,some (.ref r)] /\ SqT K H r (ys.map V.str) /\ ys.length <= 101 /\ ∀ y ∈ ys,y.length <= 40 /\ ∀ c ∈ y.cps.toList,c < 16 ^ 8)
     (pfs_cons (pf_const (n:=100) (by decide +kernel)) (pfs_cons (pf_reprT (i:=4) (n:=101) (m:=40) hr.gd hr.units0 (pv 4) (fun σ H h=>by obtain ⟨u0,u1,u2,u3,r,ys,e,h1,h2,h3⟩:=h; exact ⟨r,ys,by rw [e]; rfl,h1,h2,h3⟩) msgF1 msgF2) pfs_nil)) msgF) pa_nil))) pss_nil)
   (pss_one (ps_expr (pe_bm PySem.F.plainAttrs_list PySem.F.slot_list_append PySem.F.type_list_append mt_append (pv 2) (pa_cons (pv 4) pa_nil)))))))
  (pss_one (ps_ret (pe_callTy call_tuple_of rfl T.tuple PyProof.Rows.boot_tuple (pa_cons (pv 2) pa_nil))))),?_⟩
 have hb : 2000000 <= sizeLine:=by decide
 have hbl:=paired_lenM hbp
 refine ⟨_,rfl,(by show 1 <= sizeLine; decide),fun p hp=>?_⟩
 have keep : ∀ (H' : Hp) (o : HO),Same H H' -> Same H (upd H' p o):=fun H' o g=>keep_upd hp g o
 have k0:=keep H (.lst [.ref a]) (Same.refl H)
 refine ⟨_,rfl,b,rfl,⟨_,SqT.of (k0 _ _ hbx)⟩,?_⟩
 refine for_tup (K:=K) (a:=b) (xs:=bxs) (fun i σ' H'=>Same H H' /\ (∃ u v : Option V,σ' = [some (.ref a),some (.ref b),some (.ref p),u,v]) /\ ∃ acc xs,H' p = some (.lst xs) /\ Paired (wR H') acc xs /\ acc.length <= i + 1 /\ fmF ws l [ws ++ [l]] bs = fmF ws l acc (bs.drop i)) ?_ (fun i σ' H' _ h=>SqT.of (h.1 _ _ hbx)) ?_ ?_
 ·exact ⟨k0,⟨none,none,rfl⟩,[ws ++ [l]],_,upd_same,.cons ⟨a,rfl,k0 _ _ ha⟩ .nil,Nat.le_refl _,rfl⟩
 ·rintro i x σ' H' hi ⟨g,⟨u,v,rfl⟩,acc,xs,hxs,ht,hal,hf⟩
  obtain ⟨cp,hcp,r,rfl,hr1⟩:=paired_get hbp hi
  have hil : i < bs.length:=(List.getElem?_eq_some_iff.mp hcp).1
  have hd : bs.drop i = cp :: bs.drop (i + 1):=by
   rw [List.drop_eq_getElem_cons hil]
   congr 1
   exact (List.getElem?_eq_some_iff.mp hcp).2
  have hbd:=hB cp (List.mem_of_getElem? hcp)
  rw [hd] at hf
  refine ⟨_,rfl,_,rfl,a,r,ws,l,cp,rfl,g _ _ ha,g _ _ hr1,nw,hl,hbd,fun ho r2 H2 g2 h2=>?_,fun no H2 g2=>q2 (hf.trans (fmF_bad no)) H2 (g.trans g2)⟩
  have gA:=g.trans g2
  have hx2:=g2 _ _ hxs
  have ht2 : Paired (wR H2) acc xs:=Paired.mapP ht fun _ _ z=>z.mono g2.t
  refine ⟨_,rfl,_,rfl,ws ++ [formW l cp],acc,⟨r2,_,rfl,SqT.of h2,paired_strM _ _⟩,⟨p,xs,rfl,SqL.of hx2,Paired.mapP ht2 fun _ _ z=>wR_tup z⟩,_,rfl,?_⟩
  by_cases hm : ws ++ [formW l cp] ∈ acc
  ·rw [dec_yesM hm]
   refine iteT ⟨⟨_,_,_,_,r2,ws ++ [formW l cp],rfl,SqT.of h2,by rw [List.length_append]; show _ + 1 <= 101; omega,fun y hy=>?_⟩,fun y=>⟨(by show 1 <= sizeLine; decide),q2 (hf.trans (fmF_twice ho hm)) H2 gA⟩⟩
   rcases List.mem_append.mp hy with z | z
   ·have:=(hws y z).2.1
    exact ⟨by omega,(hws y z).2.2.small⟩
   ·rw [List.mem_singleton.mp z]
    exact ⟨formW_len hl.2.1 hbd.2.1,(formW_good hl.2.2 hbd.2.2.2).small⟩
  ·rw [dec_noM hm]
   refine iteF ?_
   refine ⟨_,rfl,.inl ⟨rfl,_,SqL.of hx2⟩,_,rfl,p,_,_,rfl,rfl,hx2,by rw [<- paired_lenM ht]; omega,?_⟩
   have tl : TSame H2 (upd H2 p (.lst (xs ++ [.ref r2]))):=TSame.lst hx2
   exact ⟨keep H2 _ gA,⟨_,_,rfl⟩,acc ++ [ws ++ [formW l cp]],xs ++ [.ref r2],upd_same,paired_snocM (Paired.mapP ht2 fun _ _ z=>z.mono tl) ⟨r2,rfl,tl _ _ h2⟩,by rw [List.length_append]; show _ + 1 <= _; omega,hf.trans (fmF_go ho hm)⟩
 ·rintro σ' H' ⟨g,⟨u,v,rfl⟩,acc,xs,hxs,ht,hal,hf⟩
  rw [<- hbl,List.drop_length] at hf
  refine ⟨_,rfl,p,_,rfl,.inl ⟨SqL.of hxs,fun r hr1=>?_⟩⟩
  exact q1 (by rw [hf]; intro z; cases z) _ _ (g.trans (same_new hr1 _))
theorem ok_hasW (F : Fun K "has_forms" "has_forms" s_has_forms f fd) (TT : TF K mg CF) (GO : Def P w K mg base (CXX P w) 3 "forms" ["phrase","bends"] (spFormsW CF)) : FnOk P w K mg base (CXX P w) 4 f fd ["phrase","bends"] spHasW:=by
 refine F.okX scHas (fun vs H Q E h=>?_) (fun cdv A outer s H vs Q E hr h=>?_)
 ·obtain ⟨a,v,ws,l,bs,rfl,_⟩:=h
  rfl
 obtain ⟨a,v,ws,l,bs,rfl,ha,hv,nw,hws,hl,hB,hn,q⟩:=h
 refine ⟨_,pss_cons (ps_try (Ex:=fun C _ H'=>C = .ref CF /\ Same H H' /\ fmF ws l [ws ++ [l]] bs = none) rfl rfl rfl TT.mF
   (fun pn E' hp=>pss_one (ps_expr (pe_defE GO (hr.mono (by decide)) hp (pa_cons (pv 0) (pa_cons (pv 1) pa_nil)))))
   (fun e=>pss_one (ps_ret pe_bl)))
  (pss_one (ps_ret pe_bl)),?_⟩
 refine ⟨fun C d H' σ' hE _=>?_,?_⟩
 ·obtain ⟨rfl,g,hf⟩:=hE
  refine ⟨TT.eF,?_⟩
  have:=q H' g
  rw [hf] at this
  exact this
 ·refine ⟨_,rfl,_,rfl,a,v,ws,l,bs,rfl,ha,hv,nw,hws,hl,hB,hn,fun hs r H1 g1=>?_,fun hf H1 g1=>⟨rfl,g1,hf⟩⟩
  have:=q H1 g1
  rw [Option.isSome_iff_ne_none.mpr hs] at this
  exact this
end
end D
namespace D
open PySem L2
def spRSw : Sp:=fun vs H Q _=>∃ (x : Str) (n : Int),vs = [.str x,.int n] /\ Tx x /\ (∀ ws,pW x = some ws -> ∀ v H',Same H H' -> sayR H' n ws v -> Q v H') /\ (pW x = none -> ∀ H',Same H H' -> Q .non H')
section
variable {P : Program} {w : World} {K : PySem.W.Frag} {mg : Str -> Option Value} {base : Heap} {f : Addr} {fd : FuncData}
theorem ok_rsw (F : Fun K "read_say" "read_say" s_read_say f fd) (GR : Def P w K mg base (CXX P w) 3 "read_words" ["text"] spRWw) : FnOk P w K mg base (CXX P w) 4 f fd ["text","number"] spRSw:=by
 refine F.okX scRS (fun vs H Q E h=>?_) (fun cdv A outer s H vs Q E hr h=>?_)
 ·obtain ⟨x,n,rfl,_⟩:=h
  rfl
 obtain ⟨x,n,rfl,hx,q1,q2⟩:=h
 refine ⟨_,pss_cons (ps_set (i:=2) scRS.nd rfl (Or.inl rfl) (pe_dX GR hr (by decide) (pa_cons (pv 0) pa_nil)))
  (pss_cons (ps_if (pt_cmpR op_isN (pv 2) pe_non (nomark _)) (pss_one (ps_ret pe_non)) pss_nil)
  (pss_one (ps_ret (pe_tup (pa_cons pe_str (pa_cons (pv 1) (pa_cons (pv 2) pa_nil))))))),?_⟩
 refine ⟨_,rfl,x,rfl,hx,fun ws hw r H1 g1 h1=>?_,fun hn H1 g1=>?_⟩
 ·refine ⟨_,rfl,rfl,_,rfl,?_⟩
  refine ite2 (fun z=>absurd (of_decide_eq_true z) (by intro z; cases z)) (fun _=>?_)
  refine ⟨_,rfl,_,rfl,(by show 3 <= sizeLine; decide),fun p hp=>?_⟩
  have g2:=same_new hp (.tup [.str "say",.int n,.ref r])
  exact q1 ws hw _ _ (g1.trans g2) ⟨p,_,rfl,upd_same,r,rfl,g2 _ _ h1⟩
 ·refine ⟨_,rfl,rfl,_,rfl,?_⟩
  refine ite2 (fun _=>?_) (fun z=>absurd (decide_eq_true rfl) z)
  exact q2 hn H1 g1
end
end D
namespace D
open PySem L2
theorem isW_Wd {x : Str} (h : isW x = true) : Wd x:=by
 unfold isW at h
 simp only [Bool.and_eq_true,decide_eq_true_eq] at h
 exact ⟨h.1.1,h.1.2,h.2⟩
theorem okS_ok {y : Str} (h : okS y = true) : y.length <= 20 /\ allGood y:=by
 unfold okS at h
 rw [Bool.or_eq_true] at h
 rcases h with h | h
 ·rw [of_decide_eq_true h]
  exact ⟨by decide +kernel,by unfold allGood; decide +kernel⟩
 ·have:=isW_Wd h
  exact ⟨this.2.1,this.2.2⟩
theorem pB_ok {p : Str} {b : Str × Str} (h : pB p = some b) : BdOk b:=by
 rw [pB_eq] at h
 unfold pBl at h
 split at h
 ·split at h
  ·rename_i ho
   cases h
   rw [Bool.and_eq_true] at ho
   have h1:=okS_ok ho.1
   have h2:=okS_ok ho.2
   exact ⟨h1.1,h2.1,h1.2,h2.2⟩
  ·cases h
 ·cases h
theorem pPB_ok {ps : List Str} {ph : List Str} {bs : List (Str × Str)} (h : pPB ps = some (ph,bs)) : 1 <= ph.length /\ ph.length <= 4 /\ (∀ x ∈ ph,Wd x) /\ bs.length <= 5 /\ ∀ b ∈ bs,BdOk b:=by
 unfold pPB at h
 split at h
 ·rename_i h1
  split at h
  ·rename_i h2
   cases h
   have hm:=mW_le ps
   have hl : (ps.take (mW ps)).length = mW ps:=by rw [List.length_take]; omega
   refine ⟨by omega,by omega,fun x hx=>isW_Wd ?_,Nat.le_trans (List.length_filterMap_le _ _) h2.1,fun b hb=>?_⟩
   ·have : ps.take (mW ps) = ps.takeWhile isW:=by
     unfold mW
     conv=>lhs; rw [<- List.takeWhile_append_dropWhile (p:=isW) (l:=ps)]
     rw [List.takeWhile_append_dropWhile,]
     exact (List.prefix_iff_eq_take.mp (List.takeWhile_prefix isW)).symm
    rw [this] at hx
    exact (List.all_eq_true.mp (List.all_takeWhile (p:=isW) (l:=ps))) x hx
   ·obtain ⟨p,_,e⟩:=List.mem_filterMap.mp hb
    exact pB_ok e
  ·cases h
 ·cases h
end D
namespace D
open PySem L2
def hasF (ph : List Str) (bs : List (Str × Str)) : Bool:=(fmF ph.dropLast (ph.getLastD "") [ph] bs).isSome
def pTl : List Str -> Option (Str × List Str × List (Str × Str) × List Str)
 | [h,m]=>match Txt.split h " " with
  | sc :: ps=>match pPB ps,pW m with
   | some (ph,bs),some ms=>if sc ∈ scs /\ hasF ph bs = true then some (sc,ph,bs,ms) else none
   | _,_=>none
  | []=>none
 | _=>none
def pT (x : Str):=pTl (Txt.split x ": ")
theorem sc_notin {sc : Str} (h : sc ∉ scs) : inV (.str sc) (scs.map V.str) = false:=by
 rw [Bool.eq_false_iff]
 intro z
 unfold inV at z
 obtain ⟨y,hy,e⟩:=List.any_eq_true.mp z
 obtain ⟨s,hs,rfl⟩:=List.mem_map.mp hy
 have e : (s == sc) = true:=e
 exact h (by rw [<- eq_of_beq e]; exact hs)
def spRTw : Sp:=fun vs H Q _=>∃ (x : Str) (n : Int),vs = [.str x,.int n] /\ Tx x /\ (∀ sc ph bs ms,pT x = some (sc,ph,bs,ms) -> ∀ v H',Same H H' -> tellR H' n sc ph bs ms v -> Q v H') /\ (pT x = none -> ∀ H',Same H H' -> Q .non H')
section
variable {P : Program} {w : World} {K : PySem.W.Frag} {mg : Str -> Option Value} {base : Heap} {f : Addr} {fd : FuncData}
set_option maxHeartbeats 8000000 in
theorem ok_rtw {CS : Addr} (F : Fun K "read_telling" "read_telling" s_read_telling f fd) (T : Tw K mg) (S : Ts K mg CS) (GP : Def P w K mg base CX0 3 "read_phrase_and_bends" ["pieces"] spRPBw) (GR : Def P w K mg base (CXX P w) 3 "read_words" ["text"] spRWw) (GH : Def P w K mg base (CXX P w) 4 "has_forms" ["phrase","bends"] spHasW) : FnOk P w K mg base (CXX P w) 5 f fd ["text","number"] spRTw:=by
 refine F.okX scRT (fun vs H Q E h=>?_) (fun cdv A outer s H vs Q E hr h=>?_)
 ·obtain ⟨x,n,rfl,_⟩:=h
  rfl
 obtain ⟨x,n,rfl,hx,q1,q2⟩:=h
 refine ⟨_,pss_cons (ps_set (i:=2) scRT.nd rfl (Or.inl rfl) (pe_bm PySem.F.plainAttrs_str PySem.F.slot_str_split PySem.F.type_str_split mt_splitN (pv 0) (pa_cons pe_str pa_nil)))
  (pss_cons (ps_if (pt_cmpR op_ne (pe_callB call_len_seq rfl T.len PySem.boot_len (pa_cons (pv 2) pa_nil)) pe_int (nomark _)) (pss_one (ps_ret pe_non)) pss_nil)
  (pss_cons (ps_set (i:=3) scRT.nd rfl (Or.inl rfl) (pe_bm PySem.F.plainAttrs_str PySem.F.slot_str_split PySem.F.type_str_split mt_split (pe_ix ix_list (pv 2) pe_int (fun _ _=>rfl)) (pa_cons pe_str pa_nil)))
  (pss_cons (ps_set (i:=4) scRT.nd rfl (Or.inl rfl) (pe_d0 GP hr (by decide) (pa_cons (pe_slice sl_list (pv 3) (po_some pe_int) po_none) pa_nil)))
  (pss_cons (ps_set (i:=5) scRT.nd rfl (Or.inl rfl) (pe_dX GR hr (by decide) (pa_cons (pe_ix ix_list (pv 2) pe_int (fun _ _=>rfl)) pa_nil)))
  (pss_cons (ps_if (PW.pt (pw_or (pt_cmpR op_notIn_seq (pe_ix ix_list (pv 3) pe_int (fun _ _=>rfl)) (pe_glob (v:=.ref CS) rfl S.m rfl) (by with_unfolding_all rfl)) (pw_or (pt_cmpR op_isN (pv 4) pe_non (nomark _)) (pw_or1 (pt_cmpR op_isN (pv 5) pe_non (nomark _)))))) (pss_one (ps_ret pe_non)) pss_nil)
  (pss_cons (ps_if (pt_not (pt_val (pe_dX GH hr (by decide) (pa_cons (pe_ix ix_tup (pv 4) pe_int (fun _ _=>rfl)) (pa_cons (pe_ix ix_tup (pv 4) pe_int (fun _ _=>rfl)) pa_nil))))) (pss_one (ps_ret pe_non)) pss_nil)
  (pss_one (ps_ret (pe_tup (pa_cons pe_str (pa_cons (pv 1) (pa_cons (pe_ix ix_list (pv 3) pe_int (fun _ _=>rfl)) (pa_cons (pe_ix ix_tup (pv 4) pe_int (fun _ _=>rfl)) (pa_cons (pe_ix ix_tup (pv 4) pe_int (fun _ _=>rfl)) (pa_cons (pv 5) pa_nil))))))))))))))),?_⟩
 have hb : 2000000 <= sizeLine:=by decide
 have hxn:=hx.n
 refine ⟨_,rfl,rfl,x,": ",rfl,rfl,by decide +kernel,(by rw [show (": " : Str).length = 2 by decide +kernel]; omega),fun p hp=>?_⟩
 have hparts : ∀ y ∈ Txt.split x ": ",Tx y:=fun y hy=>hx.part hy
 have hpt : pT x = pTl (Txt.split x ": "):=rfl
 rw [hpt] at q1 q2
 clear hpt
 generalize Txt.split x ": " = sd at q1 q2 hparts ⊢
 have g1:=same_new hp (.lst (sd.map V.str))
 have e1 : upd H p (.lst (sd.map V.str)) p = some (.lst (sd.map V.str)):=upd_same
 generalize upd H p (.lst (sd.map V.str)) = H1 at g1 e1 ⊢
 refine ⟨_,rfl,p,_,rfl,.inl (SqL.of e1),rfl,_,rfl,?_⟩
 rw [List.length_map]
 refine ite2 (fun z=>?_) (fun z=>?_)
 ·refine q2 ?_ H1 g1
  match sd,z with
  | [],_=>rfl
  | [_],_=>rfl
  | [_,_],z=>exact absurd z (show ¬ (!decide (V.int ((2 : Nat) : Int) = V.int 2)) = true by decide)
  | _ :: _ :: _ :: _,_=>rfl
 have l2 : sd.length = 2:=by
  have z : (!decide (V.int (sd.length : Int) = V.int 2)) = false:=Bool.eq_false_iff.mpr z
  rw [Bool.not_eq_false'] at z
  have:=V.int.inj (of_decide_eq_true z)
  omega
 match sd,l2,q1,q2,hparts,e1 with
 | [h,m],_,q1,q2,hparts,e1 =>
  have hh:=hparts h List.mem_cons_self
  have hm:=hparts m (List.mem_cons_of_mem _ List.mem_cons_self)
  have hhn:=hh.n
  refine ⟨_,rfl,p,_,_,_,rfl,rfl,SqL.of e1,rfl,rfl,h," ",rfl,rfl,by decide +kernel,by omega,fun p2 hp2=>?_⟩
  have hps : ∀ y ∈ Txt.split h " ",Tx y:=fun y hy=>hh.part hy
  have hpl : (Txt.split h " ").length <= 500002:=by
   have:=split_count h " "
   omega
  have hpt : pTl [h,m] = match Txt.split h " " with
   | sc :: ps=>match pPB ps,pW m with
    | some (ph,bs),some ms=>if sc ∈ scs /\ hasF ph bs = true then some (sc,ph,bs,ms) else none
    | _,_=>none
   | []=>none:=rfl
  rw [hpt] at q1 q2
  cases hsp : Txt.split h " " with
  | nil=>exact absurd hsp (split_ne _ _)
  | cons sc ps =>
   rw [hsp] at hps hpl q1 q2
   dsimp only at q1 q2
   have g2:=same_new hp2 (.lst ((sc :: ps).map V.str))
   have e2 : upd H1 p2 (.lst ((sc :: ps).map V.str)) p2 = some (.lst ((sc :: ps).map V.str)):=upd_same
   generalize upd H1 p2 (.lst ((sc :: ps).map V.str)) = H2 at g2 e2 ⊢
   refine ⟨_,rfl,_,rfl,p2,_,rfl,SqL.of e2,fun p3 hp3=>?_⟩
   have ed : cutV ((sc :: ps).map V.str) (some 1) none = ps.map V.str:=by
    rw [cutV_fromM _ (by decide)]
    rfl
   rw [ed]
   have g3:=same_new hp3 (.lst (ps.map V.str))
   have e3 : upd H2 p3 (.lst (ps.map V.str)) p3 = some (.lst (ps.map V.str)):=upd_same
   generalize upd H2 p3 (.lst (ps.map V.str)) = H3 at g3 e3 ⊢
   have gA:=(g1.trans g2).trans g3
   have e13:=g3 _ _ (g2 _ _ e1)
   have e23:=g3 _ _ e2
   refine ⟨p3,ps,rfl,e3,fun y hy=>hps y (List.mem_cons_of_mem _ hy),by rw [List.length_cons] at hpl; omega,fun ph bs hpb r x y H4 g4 h4 wx by4=>?_,fun hpb H4 g4=>?_⟩
   ·have e14:=g4 _ _ e13
    have e24:=g4 _ _ e23
    refine ⟨_,rfl,p,_,_,_,rfl,rfl,SqL.of e14,rfl,m,rfl,hm,fun ms hms r5 H5 g5 h5=>?_,fun hms H5 g5=>?_⟩
    ·rw [hpb,hms] at q1 q2
     dsimp only at q1 q2
     have e25:=g5 _ _ e24
     have gB:=(gA.trans g4).trans g5
     refine ⟨_,rfl,p2,_,_,_,rfl,rfl,SqL.of e25,atI_nat (j:=0) (v:=V.str sc) rfl,CS,_,rfl,.inr (S.s _),rfl,rfl,_,rfl,?_⟩
     by_cases hs : sc ∈ scs
     ·rw [sc_in hs]
      refine iteF ?_
      refine ⟨_,rfl,rfl,_,rfl,?_⟩
      refine ite2 (fun z=>absurd (of_decide_eq_true z) (by intro z; cases z)) (fun _=>?_)
      refine ⟨_,rfl,rfl,_,rfl,?_⟩
      refine ite2 (fun z=>absurd (of_decide_eq_true z) (by intro z; cases z)) (fun _=>?_)
      obtain ⟨o1,o2,o3,o4,o5⟩:=pPB_ok hpb
      have ep : ph = ph.dropLast ++ [ph.getLastD ""]:=by
       obtain ⟨pl,px,e⟩:=snoc_of (l:=ph) (by intro z; rw [z] at o1; simp at o1)
       rw [e]
       simp
      have hwl : Wd (ph.getLastD ""):=o3 _ (by rw [ep]; simp)
      have hws : ∀ x ∈ ph.dropLast,Wd x:=fun x hx=>o3 x (by rw [ep]; exact List.mem_append_left _ hx)
      have h45:=g5 _ _ h4
      have by5:=by4.mono g5.t
      obtain ⟨xa,rfl,hxa⟩:=wx.mono g5.t
      refine ⟨_,rfl,r,_,_,_,rfl,rfl,SqT.of h45,rfl,_,rfl,r,_,_,_,rfl,rfl,SqT.of h45,rfl,xa,y,ph.dropLast,ph.getLastD "",bs,rfl,by rw [<- ep]; exact hxa,by5,by rw [List.length_dropLast]; omega,hws,hwl,o5,by omega,fun H6 g6=>⟨_,rfl,?_⟩⟩
      have eF : (fmF ph.dropLast (ph.getLastD "") [ph.dropLast ++ [ph.getLastD ""]] bs).isSome = hasF ph bs:=by
       unfold hasF
       rw [<- ep]
      rw [eF]
      cases hF : hasF ph bs with
      | false=>exact iteT (q2 (by rw [if_neg (by rw [hF]; intro z; cases z.2)]) H6 (gB.trans g6))
      | true =>
       refine iteF ?_
       have h46:=g6 _ _ h45
       refine ⟨_,rfl,_,rfl,p2,_,_,_,rfl,rfl,SqL.of (g6 _ _ e25),atI_nat (j:=0) (v:=V.str sc) rfl,_,rfl,r,_,_,_,rfl,rfl,SqT.of h46,rfl,_,rfl,r,_,_,_,rfl,rfl,SqT.of h46,rfl,_,rfl,(by show 6 <= sizeLine; decide),fun p7 hp7=>?_⟩
       have g7:=same_new hp7 (.tup [.str "tell",.int n,.str sc,.ref xa,y,.ref r5])
       exact q1 sc ph bs ms (by rw [if_pos ⟨hs,hF⟩]) _ _ ((gB.trans g6).trans g7) ⟨p7,_,_,_,rfl,upd_same,⟨xa,rfl,g7 _ _ (g6 _ _ hxa)⟩,by5.mono (g6.trans g7).t,r5,rfl,g7 _ _ (g6 _ _ h5)⟩
     ·rw [sc_notin hs]
      exact iteT (iteT (q2 (by rw [if_neg (fun z=>hs z.1)]) H5 gB))
    ·rw [hpb,hms] at q2
     dsimp only at q2
     have e25:=g5 _ _ e24
     have gB:=(gA.trans g4).trans g5
     refine ⟨_,rfl,p2,_,_,_,rfl,rfl,SqL.of e25,atI_nat (j:=0) (v:=V.str sc) rfl,CS,_,rfl,.inr (S.s _),rfl,rfl,_,rfl,?_⟩
     by_cases hs : sc ∈ scs
     ·rw [sc_in hs]
      refine iteF ?_
      refine ⟨_,rfl,rfl,_,rfl,?_⟩
      refine ite2 (fun z=>absurd (of_decide_eq_true z) (by intro z; cases z)) (fun _=>?_)
      refine ⟨_,rfl,rfl,_,rfl,?_⟩
      refine ite2 (fun _=>q2 rfl H5 gB) (fun z=>absurd (decide_eq_true rfl) z)
     ·rw [sc_notin hs]
      exact iteT (iteT (q2 rfl H5 gB))
   ·rw [hpb] at q2
    have e14:=g4 _ _ e13
    have e24:=g4 _ _ e23
    refine ⟨_,rfl,p,_,_,_,rfl,rfl,SqL.of e14,rfl,m,rfl,hm,fun ms hms r5 H5 g5 h5=>?_,fun hms H5 g5=>?_⟩
    all_goals
     have e25:=g5 _ _ e24
     have gB:=(gA.trans g4).trans g5
     refine ⟨_,rfl,p2,_,_,_,rfl,rfl,SqL.of e25,atI_nat (j:=0) (v:=V.str sc) rfl,CS,_,rfl,.inr (S.s _),rfl,rfl,_,rfl,?_⟩
     by_cases hs : sc ∈ scs
     ·rw [sc_in hs]
      refine iteF ?_
      refine ⟨_,rfl,rfl,_,rfl,?_⟩
      exact ite2 (fun _=>iteT (q2 rfl H5 gB)) (fun z=>absurd (decide_eq_true rfl) z)
     ·rw [sc_notin hs]
      exact iteT (iteT (q2 rfl H5 gB))
end
end D
namespace D
open PySem L2
def dropS (k : Nat) (x : Str) : Str:=⟨((cs x).drop k).toArray⟩
def pR (n : Int) (x : Str) : Option Th :=
 if Txt.startswith x "say " = true then (pW (dropS 4 x)).map (Th.say n)
 else if Txt.startswith x "tell " = true then (pT (dropS 5 x)).map fun t=>Th.tell n t.1 t.2.1 t.2.2.1 t.2.2.2
 else none
theorem Tx.dropS {x : Str} (h : Tx x) (k : Nat) : Tx (dropS k x):=by
 have hn:=h.n
 refine ⟨?_,fun c hc=>h.s c ?_⟩
 ·unfold D.dropS
  rw [len_mk,List.length_drop,cs_len]
  omega
 ·unfold D.dropS at hc
  rw [cs_mk] at hc
  exact List.mem_of_mem_drop hc
def spRRw : Sp:=fun vs H Q _=>∃ (x : Str) (n : Int),vs = [.str x,.int n] /\ Tx x /\ (∀ t,pR n x = some t -> ∀ v H',Same H H' -> thR H' t v -> Q v H') /\ (pR n x = none -> ∀ H',Same H H' -> Q .non H')
section
variable {P : Program} {w : World} {K : PySem.W.Frag} {mg : Str -> Option Value} {base : Heap} {f : Addr} {fd : FuncData}
set_option maxHeartbeats 4000000 in
theorem ok_rrw (F : Fun K "read_row" "read_row" s_read_row f fd) (T : Tw K mg) (GS : Def P w K mg base (CXX P w) 4 "read_say" ["text","number"] spRSw) (GT : Def P w K mg base (CXX P w) 5 "read_telling" ["text","number"] spRTw) : FnOk P w K mg base (CXX P w) 6 f fd ["row","number"] spRRw:=by
 refine F.okX scRR (fun vs H Q E h=>?_) (fun cdv A outer s H vs Q E hr h=>?_)
 ·obtain ⟨t,n,rfl,_⟩:=h
  rfl
 obtain ⟨x,n,rfl,hx,q1,q2⟩:=h
 refine ⟨_,pss_cons (ps_if (pt_val (pe_bm PySem.F.plainAttrs_str PySem.F.slot_str_startswith PySem.F.type_str_startswith mt_starts (pv 0) (pa_cons pe_str pa_nil)))
   (pss_one (ps_ret (pe_dX GS hr (by decide) (pa_cons (pe_slice sl_str (pv 0) (po_some (pe_callB call_len_str rfl T.len PySem.boot_len (pa_cons pe_str pa_nil))) po_none) (pa_cons (pv 1) pa_nil))))) pss_nil)
  (pss_cons (ps_if (pt_val (pe_bm PySem.F.plainAttrs_str PySem.F.slot_str_startswith PySem.F.type_str_startswith mt_starts (pv 0) (pa_cons pe_str pa_nil)))
   (pss_one (ps_ret (pe_dX GT hr (by decide) (pa_cons (pe_slice sl_str (pv 0) (po_some (pe_callB call_len_str rfl T.len PySem.boot_len (pa_cons pe_str pa_nil))) po_none) (pa_cons (pv 1) pa_nil))))) pss_nil)
  (pss_one (ps_ret pe_non))),?_⟩
 have hb : 2000000 <= sizeLine:=by decide
 have hxn:=hx.n
 have e4 : ("say " : Str).length = 4:=by decide +kernel
 have e5 : ("tell " : Str).length = 5:=by decide +kernel
 have c4 : (⟨(cutC x (some ((("say " : Str).length : Nat) : Int)) none).toArray⟩ : Str) = dropS 4 x:=by
  unfold dropS
  rw [cut_from _ (by omega),e4] <;> rfl
 have c5 : (⟨(cutC x (some ((("tell " : Str).length : Nat) : Int)) none).toArray⟩ : Str) = dropS 5 x:=by
  unfold dropS
  rw [cut_from _ (by omega),e5] <;> rfl
 refine ⟨_,rfl,rfl,x,"say ",rfl,rfl,_,rfl,?_⟩
 cases h1 : Txt.startswith x "say " with
 | true =>
  refine iteT ?_
  refine ⟨_,rfl,"say ",rfl,(by rw [e4]; omega),_,rfl,x,rfl,(by omega),_,rfl,dropS 4 x,n,?_,hx.dropS 4,fun ws hw v H' g h=>q1 (.say n ws) ?_ v H' g h,fun hw H' g=>q2 ?_ H' g⟩
  ·rw [c4] <;> rfl
  ·unfold pR
   rw [if_pos h1,hw] <;> rfl
  ·unfold pR
   rw [if_pos h1,hw] <;> rfl
 | false =>
  have n1 : ¬ Txt.startswith x "say " = true:=by rw [h1]; decide
  refine iteF ?_
  refine ⟨_,rfl,rfl,x,"tell ",rfl,rfl,_,rfl,?_⟩
  cases h2 : Txt.startswith x "tell " with
  | true =>
   refine iteT ?_
   refine ⟨_,rfl,"tell ",rfl,(by rw [e5]; omega),_,rfl,x,rfl,(by omega),_,rfl,dropS 5 x,n,?_,hx.dropS 5,fun sc ph bs ms hw v H' g h=>q1 (.tell n sc ph bs ms) ?_ v H' g h,fun hw H' g=>q2 ?_ H' g⟩
   ·rw [c5] <;> rfl
   ·unfold pR
    rw [if_neg n1,if_pos h2,hw] <;> rfl
   ·unfold pR
    rw [if_neg n1,if_pos h2,hw] <;> rfl
  | false =>
   refine iteF ?_
   refine q2 ?_ H (Same.refl H)
   unfold pR
   rw [if_neg n1,if_neg (by rw [h2]; decide)]
end
end D
namespace D
open PySem L2
theorem dropS_app {x y : Str} {k : Nat} (h : y.length = k) : dropS k (y ++ x) = x:=by
 refine str_ext ?_
 unfold dropS
 rw [cs_mk,cs_app,<- h,<- cs_len,List.drop_left]
theorem pW_join {ws : List Str} (h : Rw ws) : pW (Str.join " " ws) = some ws:=by
 unfold pW
 rw [h.split,if_pos (List.all_eq_true.mpr fun x hx=>isW_wd (h.2.2 x hx)),if_pos h.2.1]
theorem okS_of {y : Str} (h : y.length <= 20) (g : allGood y) : okS y = true:=by
 unfold okS
 rcases isW_side h g with z | z
 ·rw [decide_eq_true z] <;> rfl
 ·rw [z,Bool.or_true]
theorem pB_bX {b : Str × Str} (h : BdOk b) : pB (bX b) = some b:=by
 rw [pB_eq,bX_split h]
 unfold pBl
 dsimp only
 rw [okS_of h.1 h.2.2.1,okS_of h.2.1 h.2.2.2] <;> rfl
theorem mW_pb {ph : List Str} {bs : List (Str × Str)} (h : ∀ x ∈ ph,Wd x) : mW (ph ++ bs.map bX) = ph.length:=by
 refine take_mW (List.all_eq_true.mpr fun x hx=>?_) (by rw [List.length_append]; omega) fun y hy=>?_
 ·rw [List.take_left] at hx
  exact isW_wd (h x hx)
 ·rw [List.getElem?_append_right (Nat.le_refl _),Nat.sub_self,List.getElem?_map] at hy
  cases hb : bs[0]? with
  | none=>rw [hb] at hy; cases hy
  | some b=>rw [hb] at hy; cases hy; exact isW_bX b
theorem fm_bX : ∀ {bs : List (Str × Str)},(∀ b ∈ bs,BdOk b) -> (bs.map bX).filterMap pB = bs
 | [],_=>rfl
 | b :: r,h=>by
  rw [List.map_cons,List.filterMap_cons,pB_bX (h b List.mem_cons_self),fm_bX fun c hc=>h c (List.mem_cons_of_mem _ hc)]
theorem pPB_of {ph : List Str} {bs : List (Str × Str)} (h1 : 1 <= ph.length) (h4 : ph.length <= 4) (hw : ∀ x ∈ ph,Wd x) (h5 : bs.length <= 5) (hb : ∀ b ∈ bs,BdOk b) : pPB (ph ++ bs.map bX) = some (ph,bs):=by
 unfold pPB
 have ha : ((bs.map bX).all fun p=>(pB p).isSome) = true:=List.all_eq_true.mpr fun x hx=>by
  obtain ⟨b,hm,rfl⟩:=List.mem_map.mp hx
  rw [pB_bX (hb b hm)] <;> rfl
 rw [mW_pb hw,if_pos ⟨h1,h4⟩,List.drop_left,List.take_left,fm_bX hb,if_pos ⟨by rw [List.length_map]; exact h5,ha⟩]
theorem fm_some {ws : List Str} {l : Str} : ∀ {bs : List (Str × Str)} {acc : List (List Str)},(∀ b ∈ bs,okF l b = true) -> (bs.map fun b=>ws ++ [formW l b]).Nodup -> (∀ b ∈ bs,ws ++ [formW l b] ∉ acc) -> (fmF ws l acc bs).isSome = true
 | [],_,_,_,_=>rfl
 | b :: r,acc,h1,h2,h3=>by
  rw [List.map_cons,List.nodup_cons] at h2
  rw [fmF_go (h1 b List.mem_cons_self) (h3 b List.mem_cons_self)]
  refine fm_some (fun c hc=>h1 c (List.mem_cons_of_mem _ hc)) h2.2 fun c hc z=>?_
  rcases List.mem_append.mp z with z | z
  ·exact h3 c (List.mem_cons_of_mem _ hc) z
  ·exact h2.1 (List.mem_map.mpr ⟨c,hc,List.mem_singleton.mp z⟩)
theorem hasF_of {ws : List Str} {l : Str} {bs : List (Str × Str)} (h : BOk l bs) : hasF (ws ++ [l]) bs = true:=by
 unfold hasF
 rw [List.dropLast_concat]
 have e : (ws ++ [l]).getLastD "" = l:=by simp [List.getLastD_eq_getLast?]
 rw [e]
 have nd:=h.nd
 rw [List.nodup_cons] at nd
 refine fm_some (fun b hb=>?_) ?_ fun b hb z=>?_
 ·obtain ⟨f1,f2,_,_,_,f3,f4⟩:=h.fit b hb
  unfold okF endsC
  rw [decide_eq_true f1,decide_eq_true f3,decide_eq_true f4,decide_eq_true f2] <;> rfl
 ·have e : (bs.map fun b=>ws ++ [formW l b]) = (bs.map (formW l)).map fun z=>ws ++ [z]:=by rw [List.map_map] <;> rfl
  rw [e]
  exact List.Pairwise.map _ (fun a b hab z=>hab (by simpa using z)) nd.2
 ·have z:=List.mem_singleton.mp z
  have z : formW l b = l:=by simpa using z
  exact nd.1 (List.mem_map.mpr ⟨b,hb,z⟩)
theorem pT_of {sc : Str} {ph : List Str} {bs : List (Str × Str)} {ms : List Str} (h : TlOk sc ph bs ms) : pT (tlX sc ph bs ms) = some (sc,ph,bs,ms):=by
 unfold pT
 rw [h.split1]
 unfold pTl
 dsimp only
 rw [h.split2]
 obtain ⟨ws,l,e,hB⟩:=h.hbs
 have h1 : 1 <= ph.length:=by rw [e,List.length_append,List.length_singleton]; omega
 have e1 : pPB (ph ++ bs.map bX) = some (ph,bs):=pPB_of h1 h.hlen h.hph hB.len h.bd
 have e2:=pW_join h.hms
 have e3 : hasF ph bs = true:=by rw [e]; exact hasF_of hB
 unfold pcX
 dsimp only
 rw [e1,e2]
 dsimp only
 rw [if_pos ⟨h.hsc,e3⟩]
theorem pR_line {t : Th} (h : TOk t) (hn : ¬ ∃ n i,t = .part n i) (n : Int) : pR n (lineOf t) = some (setN n t):=by
 cases t with
 | part m i=>exact absurd ⟨m,i,rfl⟩ hn
 | say m ws =>
  have h : Rw ws:=h
  show pR n ("say " ++ Str.join " " ws) = _
  unfold pR
  rw [if_pos (starts_app _ _),dropS_app (by decide +kernel),pW_join h] <;> rfl
 | tell m sc ph bs ms =>
  have h : TlOk sc ph bs ms:=h
  rw [line_tell h.ne]
  unfold pR
  rw [if_neg (by rw [starts_no]; decide),if_pos (starts_app _ _),dropS_app (by decide +kernel),pT_of h] <;> rfl
end D
namespace D
open PySem L2
theorem starts_inv {x y : Str} (h : Txt.startswith x y = true) : x = y ++ dropS y.length x:=by
 unfold Txt.startswith at h
 rw [StrLaws.subAt_eq,Bool.and_eq_true] at h
 have h2 : (cs x).take y.length = cs y:=by
  have:=eq_of_beq h.2
  rwa [List.drop_zero] at this
 refine str_ext ?_
 unfold dropS
 rw [cs_app,cs_mk,<- h2,List.take_append_drop]
theorem pW_inv {y : Str} {ws : List Str} (h : pW y = some ws) : y = Str.join " " ws /\ Rw ws:=by
 unfold pW at h
 split at h
 ·rename_i h1
  split at h
  ·rename_i h2
   cases h
   refine ⟨(StrLaws.join_split y " ").symm,?_,h2,fun x hx=>isW_Wd (List.all_eq_true.mp h1 x hx)⟩
   have:=split_ne y " "
   cases e : Txt.split y " " with
   | nil=>exact absurd e this
   | cons a r=>rw [List.length_cons]; omega
  ·cases h
 ·cases h
theorem pB_inv {p : Str} {b : Str × Str} (h : pB p = some b) : p = bX b:=by
 rw [pB_eq] at h
 have e:=StrLaws.join_split p ">"
 unfold pBl at h
 split at h
 ·rename_i a c hs
  split at h
  ·cases h
   rw [hs] at e
   exact e.symm
  ·cases h
 ·cases h
theorem fm_inv : ∀ {ps : List Str},(ps.all fun p=>(pB p).isSome) = true -> ps = (ps.filterMap pB).map bX
 | [],_=>rfl
 | p :: r,h=>by
  rw [List.all_cons,Bool.and_eq_true] at h
  cases e : pB p with
  | none=>rw [e] at h; cases h.1
  | some b=>rw [List.filterMap_cons,e,List.map_cons,<- fm_inv h.2,<- pB_inv e]
theorem pPB_inv {ps ph : List Str} {bs : List (Str × Str)} (h : pPB ps = some (ph,bs)) : ps = ph ++ bs.map bX:=by
 unfold pPB at h
 split at h
 ·split at h
  ·rename_i h2
   cases h
   rw [<- fm_inv h2.2,List.take_append_drop]
  ·cases h
 ·cases h
theorem fmF_inv {ws : List Str} {l : Str} : ∀ {bs : List (Str × Str)} {acc : List (List Str)},(fmF ws l acc bs).isSome = true -> (∀ b ∈ bs,okF l b = true) /\ (bs.map (formW l)).Nodup /\ ∀ b ∈ bs,ws ++ [formW l b] ∉ acc
 | [],_,_=>⟨(fun _ h=>nomatch h),List.nodup_nil,(fun _ h=>nomatch h)⟩
 | b :: r,acc,h=>by
  cases e : okF l b with
  | false=>rw [fmF_bad e] at h; cases h
  | true =>
   by_cases m : ws ++ [formW l b] ∈ acc
   ·rw [fmF_twice e m] at h; cases h
   ·rw [fmF_go e m] at h
    obtain ⟨h1,h2,h3⟩:=fmF_inv h
    refine ⟨fun c hc=>?_,?_,fun c hc=>?_⟩
    ·rcases List.mem_cons.mp hc with z | z
     ·rw [z]; exact e
     ·exact h1 c z
    ·rw [List.map_cons,List.nodup_cons]
     refine ⟨fun z=>?_,h2⟩
     obtain ⟨c,hc,z⟩:=List.mem_map.mp z
     exact h3 c hc (List.mem_append_right _ (by rw [z]; exact List.mem_singleton_self _))
    ·rcases List.mem_cons.mp hc with z | z
     ·rw [z]; exact m
     ·exact fun y=>h3 c z (List.mem_append_left _ y)
theorem hasF_inv {ph : List Str} {bs : List (Str × Str)} (h : hasF ph bs = true) (h1 : 1 <= ph.length) (hb : ∀ b ∈ bs,BdOk b) (h5 : bs.length <= 5) : ∃ ws last,ph = ws ++ [last] /\ BOk last bs:=by
 obtain ⟨ws,l,rfl⟩:=snoc_of (l:=ph) (by intro z; rw [z] at h1; simp at h1)
 refine ⟨ws,l,rfl,?_⟩
 unfold hasF at h
 have e : (ws ++ [l]).getLastD "" = l:=by simp [List.getLastD_eq_getLast?]
 rw [List.dropLast_concat,e] at h
 obtain ⟨a1,a2,a3⟩:=fmF_inv h
 refine ⟨h5,fun b hb1=>?_,?_⟩
 ·have z:=a1 b hb1
  unfold okF endsC at z
  simp only [Bool.and_eq_true,decide_eq_true_eq] at z
  have k:=hb b hb1
  exact ⟨z.1.1,z.1.2,k.2.1,k.2.2.1,k.2.2.2,z.2.1,z.2.2⟩
 ·rw [List.nodup_cons]
  refine ⟨fun z=>?_,a2⟩
  obtain ⟨b,hb1,z⟩:=List.mem_map.mp z
  exact a3 b hb1 (by rw [z]; exact List.mem_singleton_self _)
theorem pT_inv {y sc : Str} {ph : List Str} {bs : List (Str × Str)} {ms : List Str} (h : pT y = some (sc,ph,bs,ms)) : y = tlX sc ph bs ms /\ TlOk sc ph bs ms:=by
 unfold pT at h
 have e:=StrLaws.join_split y ": "
 unfold pTl at h
 split at h
 ·rename_i hd m hs
  rw [hs] at e
  have e2:=StrLaws.join_split hd " "
  split at h
  ·rename_i s ps hsp
   rw [hsp] at e2
   split at h
   ·rename_i p1 b1 m1 hp hw
    split at h
    ·rename_i hc
     cases h
     obtain ⟨k1,k2,k3,k4,k5⟩:=pPB_ok hp
     obtain ⟨w1,w2⟩:=pW_inv hw
     refine ⟨?_,hc.1,k2,k3,hasF_inv hc.2 k1 k5 k4,w2⟩
     rw [<- e]
     show hd ++ ": " ++ m = _
     unfold tlX pcX
     rw [<- pPB_inv hp,e2,<- w1]
    ·cases h
   ·cases h
  ·cases h
 ·cases h
theorem pR_inv {n : Int} {x : Str} {t : Th} (h : pR n x = some t) : x = lineOf t /\ TOk t /\ (¬ ∃ m i,t = .part m i) /\ t = setN n t:=by
 unfold pR at h
 split at h
 ·rename_i h1
  cases e : pW (dropS 4 x) with
  | none=>rw [e] at h; cases h
  | some ws =>
   rw [e] at h
   cases h
   obtain ⟨w1,w2⟩:=pW_inv e
   refine ⟨?_,w2,(fun ⟨_,_,z⟩=>by cases z),rfl⟩
   have:=starts_inv h1
   rw [show ("say " : Str).length = 4 by decide +kernel,w1] at this
   exact this
 ·split at h
  ·rename_i h1
   cases e : pT (dropS 5 x) with
   | none=>rw [e] at h; cases h
   | some q =>
    obtain ⟨sc,ph,bs,ms⟩:=q
    rw [e] at h
    cases h
    obtain ⟨w1,w2⟩:=pT_inv e
    refine ⟨?_,w2,(fun ⟨_,_,z⟩=>by cases z),rfl⟩
    have:=starts_inv h1
    rw [show ("tell " : Str).length = 5 by decide +kernel,w1] at this
    rw [line_tell w2.ne]
    exact this
  ·cases h
end D
namespace D
open PySem L2
def Tight (l : List Nat) : Prop:=l ≠ [] /\ l.head? ≠ some 32 /\ l.getLast? ≠ some 32 /\ ∀ i : Nat,l[i]? = some 32 -> l[i + 1]? ≠ some 32
theorem tight_word {l : List Nat} (h : 32 ∉ l) (ne : l ≠ []) : Tight l:=by
 refine ⟨ne,fun z=>h (List.mem_of_mem_head? z),fun z=>h (List.mem_of_getLast? z),fun i z=>absurd (List.mem_of_getElem? z) h⟩
theorem Tight.glue {u v : List Nat} (a : Tight u) (b : Tight v) : Tight (u ++ 32 :: v):=by
 obtain ⟨a1,a2,a3,a4⟩:=a
 obtain ⟨b1,b2,b3,b4⟩:=b
 refine ⟨by simp,?_,?_,fun i z w=>?_⟩
 ·cases u with
  | nil=>exact absurd rfl a1
  | cons c r=>exact a2
 ·rw [List.getLast?_append,List.getLast?_cons]
  cases v with
  | nil=>exact absurd rfl b1
  | cons c r =>
   rw [List.getLast?_eq_some_getLast (by simp)] at b3 ⊢
   simpa using b3
 ·by_cases h1 : i < u.length
  ·rw [List.getElem?_append_left h1] at z
   by_cases h2 : i + 1 < u.length
   ·rw [List.getElem?_append_left h2] at w
    exact a4 i z w
   ·have e : i = u.length - 1:=by omega
    rw [List.getLast?_eq_getElem?,<- e] at a3
    exact a3 z
  ·by_cases h2 : i = u.length
   ·rw [h2,List.getElem?_append_right (by omega),show u.length + 1 - u.length = 0 + 1 by omega,List.getElem?_cons_succ] at w
    rw [List.head?_eq_getElem?] at b2
    exact b2 w
   ·rw [List.getElem?_append_right (by omega),show i - u.length = (i - u.length - 1) + 1 by omega,List.getElem?_cons_succ] at z
    rw [List.getElem?_append_right (by omega),show i + 1 - u.length = (i - u.length - 1 + 1) + 1 by omega,List.getElem?_cons_succ] at w
    exact b4 _ z w
theorem Tight.snoc {u : List Nat} {c : Nat} (a : Tight u) (h : c ≠ 32) : Tight (u ++ [c]):=by
 obtain ⟨a1,a2,a3,a4⟩:=a
 refine ⟨by simp,?_,?_,fun i z w=>?_⟩
 ·cases u with
  | nil=>exact absurd rfl a1
  | cons c r=>exact a2
 ·rw [List.getLast?_append]
  simpa using h
 ·by_cases h1 : i + 1 < u.length
  ·rw [List.getElem?_append_left h1] at w
   rw [List.getElem?_append_left (by omega)] at z
   exact a4 i z w
  ·by_cases h2 : i + 1 = u.length
   ·rw [h2,List.getElem?_append_right (Nat.le_refl _),Nat.sub_self] at w
    exact h (by simpa using w)
   ·rw [List.getElem?_append_right (by omega)] at w
    have:=(List.getElem?_eq_some_iff.mp w).1
    simp at this
    omega
theorem tight_join : ∀ {ys : List Str},ys ≠ [] -> (∀ y ∈ ys,Tight (cs y)) -> Tight (cs (Str.join " " ys))
 | [],h,_=>absurd rfl h
 | [y],_,h=>h y List.mem_cons_self
 | y :: z :: r,_,h=>by
  rw [cs_joinM,show cs (" " : Str) = [32] by decide +kernel]
  exact (h y List.mem_cons_self).glue (tight_join (by simp) fun w hw=>h w (List.mem_cons_of_mem _ hw))
theorem tight_wd {x : Str} (h : Wd x) : Tight (cs x):=tight_word (good_free h.2.2 (by decide)) (fun z=>by have:=h.1; rw [<- cs_len,z] at this; simp at this)
theorem tight_bX {b : Str × Str} (h : BdOk b) : Tight (cs (bX b)):=by
 refine tight_word (fun z=>?_) (by rw [cs_bX]; simp)
 rw [cs_bX] at z
 rcases List.mem_append.mp z with z | z
 ·exact good_free h.2.2.1 (by decide) z
 ·rcases List.mem_cons.mp z with z | z
  ·exact absurd z (by decide)
  ·exact good_free h.2.2.2 (by decide) z
theorem Rw.tight {ws : List Str} (h : Rw ws) : Tight (cs (Str.join " " ws)):=tight_join (by intro z; have:=h.1; rw [z] at this; simp at this) fun y hy=>tight_wd (h.2.2 y hy)
theorem TlOk.tight {sc : Str} {ph : List Str} {bs : List (Str × Str)} {ms : List Str} (h : TlOk sc ph bs ms) : Tight (cs (Str.join " " (pcX sc ph bs))):=by
 refine tight_join (by unfold pcX; simp) fun y hy=>?_
 rcases List.mem_cons.mp hy with z | z
 ·rw [z]; exact tight_wd (sc_good h.hsc)
 ·rcases List.mem_append.mp z with z | z
  ·exact tight_wd (h.hph y z)
  ·obtain ⟨b,hb,rfl⟩:=List.mem_map.mp z
   exact tight_bX (h.bd b hb)
theorem row_cases {n : Int} {x : Str} {t : Th} (h : pR n x = some t) : (∃ ws,Rw ws /\ cs x = [115,97,121] ++ 32 :: cs (Str.join " " ws)) ∨
  ∃ sc ph bs ms,TlOk sc ph bs ms /\ cs x = ([116,101,108,108] ++ 32 :: cs (Str.join " " (pcX sc ph bs))) ++ 58 :: 32 :: cs (Str.join " " ms):=by
 obtain ⟨e,ok,np,_⟩:=pR_inv h
 cases t with
 | part m i=>exact absurd ⟨m,i,rfl⟩ np
 | say m ws =>
  refine .inl ⟨ws,ok,?_⟩
  rw [e]
  show cs ("say " ++ Str.join " " ws) = _
  rw [cs_app,show cs ("say " : Str) = [115,97,121,32] by decide +kernel] <;> rfl
 | tell m sc ph bs ms =>
  have ok : TlOk sc ph bs ms:=ok
  refine .inr ⟨sc,ph,bs,ms,ok,?_⟩
  rw [e,line_tell ok.ne]
  unfold tlX
  rw [cs_app,cs_app,cs_app,show cs ("tell " : Str) = [116,101,108,108,32] by decide +kernel,show cs (": " : Str) = [58,32] by decide +kernel]
  simp
theorem row_tight {n : Int} {x : Str} {t : Th} (h : pR n x = some t) : Tight (cs x):=by
 rcases row_cases h with ⟨ws,hw,e⟩ | ⟨sc,ph,bs,ms,ok,e⟩
 ·rw [e]
  exact (tight_word (by decide) (by decide)).glue hw.tight
 ·have e2 : cs x = (([116,101,108,108] ++ 32 :: cs (Str.join " " (pcX sc ph bs))) ++ [58]) ++ 32 :: cs (Str.join " " ms):=by rw [e]; simp
  rw [e2]
  exact (((tight_word (by decide) (by decide)).glue ok.tight).snoc (by decide)).glue ok.hms.tight
theorem none_of {x : Str} (h : ∀ n t,pR n x = some t -> False) (n : Int) : pR n x = none:=by
 cases e : pR n x with
 | none=>rfl
 | some t=>exact (h n t e).elim
theorem none_tight {x : Str} (h : ¬ Tight (cs x)) (n : Int) : pR n x = none:=none_of (fun _ _ e=>h (row_tight e)) n
theorem not_tight2 {u v : List Nat} : ¬ Tight (u ++ 32 :: 32 :: v):=fun h=>h.2.2.2 u.length (by rw [List.getElem?_append_right (Nat.le_refl _),Nat.sub_self] <;> rfl) (by rw [List.getElem?_append_right (by omega),show u.length + 1 - u.length = 1 by omega] <;> rfl)
theorem not_tightR {u : List Nat} : ¬ Tight (u ++ [32]):=fun h=>h.2.2.1 (by rw [List.getLast?_append] <;> rfl)
theorem none_first {x : Str} {c : Nat} (h : (cs x).head? = some c) (h1 : c ≠ 115) (h2 : c ≠ 116) (n : Int) : pR n x = none:=none_of (fun _ _ e=>by
 rcases row_cases e with ⟨ws,hw,e⟩ | ⟨sc,ph,bs,ms,ok,e⟩
 ·rw [e] at h; exact h1 (Option.some.inj h).symm
 ·rw [e] at h; exact h2 (Option.some.inj h).symm) n
theorem none_bad {x : Str} {c : Nat} (hc : good c = false) (h32 : c ≠ 32) (h58 : c ≠ 58) (h62 : c ≠ 62) (hm : c ∈ cs x) (n : Int) : pR n x = none:=none_of (fun _ _ e=>by
 rcases row_cases e with ⟨ws,hw,e⟩ | ⟨sc,ph,bs,ms,ok,e⟩
 ·rw [e] at hm
  rcases List.mem_append.mp hm with z | z
  ·simp only [List.mem_cons,List.not_mem_nil,or_false] at z
   rcases z with rfl | rfl | rfl <;> cases hc
  ·rcases List.mem_cons.mp z with z | z
   ·exact h32 z
   ·exact hw.free hc h32 z
 ·rw [e] at hm
  rcases List.mem_append.mp hm with z | z
  ·rcases List.mem_append.mp z with z | z
   ·simp only [List.mem_cons,List.not_mem_nil,or_false] at z
    rcases z with rfl | rfl | rfl | rfl <;> cases hc
   ·rcases List.mem_cons.mp z with z | z
    ·exact h32 z
    ·exact free_join (by rw [show cs (" " : Str) = [32] by decide +kernel]; simpa using h32) (ok.pcs hc h62) z
  ·rcases List.mem_cons.mp z with z | z
   ·exact h58 z
   ·rcases List.mem_cons.mp z with z | z
    ·exact h32 z
    ·exact ok.hms.free hc h32 z) n
theorem none_say {x : Str} {c : Nat} (h : (cs x).head? = some 115) (hc : good c = false) (h32 : c ≠ 32) (hm : c ∈ cs x) (n : Int) : pR n x = none:=none_of (fun _ _ e=>by
 rcases row_cases e with ⟨ws,hw,e⟩ | ⟨sc,ph,bs,ms,ok,e⟩
 ·rw [e] at hm
  rcases List.mem_append.mp hm with z | z
  ·simp only [List.mem_cons,List.not_mem_nil,or_false] at z
   rcases z with rfl | rfl | rfl <;> cases hc
  ·rcases List.mem_cons.mp z with z | z
   ·exact h32 z
   ·exact hw.free hc h32 z
 ·rw [e] at h; cases h) n
theorem cut_uniq {c : Nat} : ∀ {u p v w : List Nat},u ++ c :: v = p ++ c :: w -> c ∉ u -> c ∉ p -> u = p /\ v = w
 | [],[],_,_,e,_,_=>⟨rfl,(List.cons.inj e).2⟩
 | [],a :: p,_,_,e,_,h=>absurd (List.cons.inj e).1 (fun z=>h (by rw [z]; exact List.mem_cons_self))
 | a :: u,[],_,_,e,h,_=>absurd (List.cons.inj e).1 (fun z=>h (by rw [<- z]; exact List.mem_cons_self))
 | a :: u,b :: p,_,_,e,h1,h2=>by
  obtain ⟨e1,e2⟩:=List.cons.inj e
  obtain ⟨e3,e4⟩:=cut_uniq e2 (fun z=>h1 (List.mem_cons_of_mem _ z)) fun z=>h2 (List.mem_cons_of_mem _ z)
  exact ⟨by rw [e1,e3],e4⟩
theorem TlOk.no58 {sc : Str} {ph : List Str} {bs : List (Str × Str)} {ms : List Str} (h : TlOk sc ph bs ms) : 58 ∉ [116,101,108,108] ++ 32 :: cs (Str.join " " (pcX sc ph bs)):=fun z=>by
 rcases List.mem_append.mp z with z | z
 ·exact absurd z (by decide)
 ·rcases List.mem_cons.mp z with z | z
  ·exact absurd z (by decide)
  ·exact free_join (by decide +kernel) (h.pcs (by decide) (by decide)) z
theorem tell_colon {n : Int} {x : Str} {t : Th} (h : pR n x = some t) (h0 : (cs x).head? = some 116) : ∃ u v,cs x = u ++ 58 :: 32 :: v /\ 58 ∉ u /\ 58 ∉ v:=by
 rcases row_cases h with ⟨ws,hw,e⟩ | ⟨sc,ph,bs,ms,ok,e⟩
 ·rw [e] at h0; cases h0
 ·exact ⟨_,_,e,ok.no58,ok.hms.free (by decide) (by decide)⟩
theorem none_colon {x : Str} {u v : List Nat} (h0 : (cs x).head? = some 116) (e : cs x = u ++ 58 :: v) (hu : 58 ∉ u) (h : ∀ v',v = 32 :: v' -> 58 ∈ v') (n : Int) : pR n x = none:=none_of (fun _ _ q=>by
 obtain ⟨p,w,e2,a,b⟩:=tell_colon q h0
 rw [e] at e2
 obtain ⟨_,z⟩:=cut_uniq e2 hu a
 exact b (h w z)) n
theorem none_nocolon {x : Str} (h0 : (cs x).head? = some 116) (h : 58 ∉ cs x) (n : Int) : pR n x = none:=none_of (fun _ _ q=>by
 obtain ⟨p,w,e2,_,_⟩:=tell_colon q h0
 exact h (by rw [e2]; simp)) n
end D
namespace D
open PySem L2
abbrev s_init : Stmt:=inClass (top 4) 0
def spInit (K : PySem.W.Frag) : Sp:=fun vs H Q _=>∃ (e C : Addr) (v : V),vs = [.ref e,v] /\ H e = some (.ext (ExcAt e C none)) /\ XSet K C "row" /\ ∀ d,H d = none -> d ≠ e -> Q .non (upd (upd H e (.ext (ExcAt e C (some d)))) d (.xd [("row",v)]))
def cutR (ls : List Str) : List Str:=if ls = ([""] : List Str) then [] else ls
def spCIRw : Sp:=fun vs H Q _=>∃ ls : List Str,vs = [.str (Str.join "\n" ls)] /\ (∀ y ∈ ls,10 ∉ cs y) /\ (Str.join "\n" ls).length + 2 <= sizeLine /\ ∀ r H',Same H H' -> H r = none -> H' r = some (.lst ((cutR ls).map V.str)) -> Q (.ref r) H'
section
variable {P : Program} {w : World} {K : PySem.W.Frag} {mg : Str -> Option Value} {base : Heap} {f : Addr} {fd : FuncData}
theorem scInit : FnScope ["self","row"] ["self","row"] (defScope s_init):=⟨rfl,rfl,rfl,by decide +kernel,rfl,by decide +kernel,by decide +kernel⟩
theorem ok_init (F : Fun K "__init__" "NoRow.__init__" s_init f fd) : FnOk P w K mg base CX0 1 f fd ["self","row"] (spInit K):=by
 refine F.ok scInit (fun vs H Q E h=>?_) (fun cdv A outer s H vs Q E hr h=>?_)
 ·obtain ⟨e,C,v,rfl,_⟩:=h
  rfl
 obtain ⟨e,C,v,rfl,he,hx,q⟩:=h
 refine ⟨_,pss_one (ps_exc (pv 0) (pv 1) (by with_unfolding_all rfl)),?_⟩
 exact ⟨_,rfl,_,rfl,e,C,rfl,he,hx,fun d hd ne=>q d hd ne⟩
set_option maxHeartbeats 4000000 in
theorem ok_cirw (F : Fun K "cut_in_rows" "cut_in_rows" s_cut_in_rows f fd) : FnOk P w K mg base CX0 1 f fd ["text"] spCIRw:=by
 refine F.ok scCIR (fun vs H Q E h=>?_) (fun cdv A outer s H vs Q E hr h=>?_)
 ·obtain ⟨ls,rfl,_⟩:=h
  rfl
 obtain ⟨ls,rfl,hls,hz,q⟩:=h
 refine ⟨_,pss_one (ps_ret (pe_ifExp (pt_cmpR op_ne (pv 0) pe_str (nomark _)) (pe_bm PySem.F.plainAttrs_str PySem.F.slot_str_split PySem.F.type_str_split mt_split (pv 0) (pa_cons pe_str pa_nil)) (pe_lst pa_nil))),?_⟩
 refine ⟨_,rfl,rfl,_,rfl,?_⟩
 have hemp : cutR ls = [] -> Str.join "\n" ls = "":=fun z=>by
  unfold cutR at z
  split at z
  ·rename_i e; rw [e]; decide +kernel
  ·rw [z]; decide +kernel
 have hne : cutR ls ≠ [] -> ls ≠ [] /\ cutR ls = ls /\ Str.join "\n" ls ≠ "":=fun z=>by
  unfold cutR at z ⊢
  split at z
  ·exact absurd rfl z
  ·rename_i h1
   refine ⟨z,by rw [if_neg h1],fun w=>?_⟩
   have w:=congrArg (fun x=>(cs x).length) w
   have e0 : (cs ("" : Str)).length = 0:=by decide +kernel
   cases ls with
   | nil=>exact z rfl
   | cons y r =>
    cases r with
    | nil =>
     refine h1 ?_
     have w : (cs y).length = (cs ("" : Str)).length:=w
     rw [e0] at w
     have : cs y = []:=List.eq_nil_of_length_eq_zero w
     rw [show y = "" from str_ext (by rw [this]; decide +kernel)]
    | cons y2 r =>
     have w : (cs (Str.join "\n" (y :: y2 :: r))).length = (cs ("" : Str)).length:=w
     rw [e0,cs_joinM,List.length_append,List.length_append,show (cs ("\n" : Str)).length = 1 by decide +kernel] at w
     omega
 by_cases hc : cutR ls = []
 ·refine ite2 (fun z=>?_) (fun _=>?_)
  ·rw [Bool.not_eq_true',decide_eq_false_iff_not] at z
   exact absurd (congrArg V.str (hemp hc)) z
  ·refine ⟨(by show 0 <= sizeLine; decide),fun p hp=>?_⟩
   exact q p _ (same_new hp _) hp (by rw [hc]; exact upd_same)
 ·obtain ⟨h1,h2,h3⟩:=hne hc
  refine ite2 (fun _=>?_) (fun z=>absurd ?_ z)
  ·refine ⟨_,rfl,rfl,Str.join "\n" ls,"\n",rfl,rfl,by decide +kernel,hz,fun p hp=>?_⟩
   have e : Txt.split (Str.join "\n" ls) "\n" = ls:=split_join (c:=10) h1 hls
   rw [e]
   exact q p _ (same_new hp _) hp (by rw [h2]; exact upd_same)
  ·rw [Bool.not_eq_true',decide_eq_false_iff_not]
   exact fun z=>h3 (V.str.inj z)
end
inductive Out where
 | row (n : Nat) | deep | opn | fin (ts : List Th)
def shut : Sk -> Sk
 | (n,ts) :: (m,us) :: s=>(m,us ++ [.part n (F.of ts)]) :: s
 | s=>s
def push (t : Th) : Sk -> Sk
 | (n,ts) :: s=>(n,ts ++ [t]) :: s
 | s=>s
def rd : List Str -> Nat -> Nat -> Sk -> Out
 | [],_,_,st=>match st with
  | [(_,ts)]=>.fin ts
  | _=>.opn
 | x :: r,i,k,st=>if x = "end" then (if st.length = 1 then .row i else rd r (i + 1) k (shut st)) else if x = "part" then (if 8 < st.length then .deep else rd r (i + 1) (k + 1) (((k + 1 : Nat),[]) :: st)) else
  match pR ((k + 1 : Nat) : Int) x with
  | none=>.row i
  | some t=>rd r (i + 1) (k + 1) (push t st)
structure TR (K : PySem.W.Frag) (mg : Str -> Option Value) (CR CD CE fI : Addr) : Prop where
 mR : mg "NoRow" = some (.ref CR)
 mD : mg "TooDeep" = some (.ref CD)
 mE : mg "NoEnd" = some (.ref CE)
 kR : MkX K CR fI bmN "ValueError.__new__"
 kD : PySem.W.excIn K CD bmN "ValueError.__new__" = true
 kE : PySem.W.excIn K CE bmN "ValueError.__new__" = true
 xR : XSet K CR "row"
def spReadW (CR CD CE : Addr) : Sp:=fun vs H Q E=>∃ ls : List Str,vs = [.str (Str.join "\n" ls)] /\ (∀ y ∈ ls,10 ∉ cs y /\ Tx y) /\ (Str.join "\n" ls).length + 2 <= sizeLine /\ ls.length <= 900 /\
 (∀ ts,rd (cutR ls) 0 0 [(0,[])] = .fin ts -> ∀ v H',Same H H' -> partR H' 0 (F.of ts) v -> Q v H') /\
 (∀ n,rd (cutR ls) 0 0 [(0,[])] = .row n -> ∀ d H',Same H H' -> H' d = some (.xd [("row",.int (n : Nat))]) -> E (.ref CR) (some d) H') /\
 (rd (cutR ls) 0 0 [(0,[])] = .deep -> ∀ H',Same H H' -> E (.ref CD) none H') /\ (rd (cutR ls) 0 0 [(0,[])] = .opn -> ∀ H',Same H H' -> E (.ref CE) none H')
end D
namespace D
open PySem L2
theorem rd_end1 {r : List Str} {i k : Nat} {st : Sk} (h : st.length = 1) : rd ("end" :: r) i k st = .row i:=by
 unfold rd
 rw [if_pos rfl,if_pos h]
theorem rd_end2 {r : List Str} {i k : Nat} {st : Sk} (h : st.length ≠ 1) : rd ("end" :: r) i k st = rd r (i + 1) k (shut st):=by
 conv=>lhs; unfold rd
 rw [if_pos rfl,if_neg h]
theorem pe_ne : ("part" : Str) ≠ "end":=by decide +kernel
theorem rd_part1 {r : List Str} {i k : Nat} {st : Sk} (h : 8 < st.length) : rd ("part" :: r) i k st = .deep:=by
 unfold rd
 rw [if_neg pe_ne,if_pos rfl,if_pos h]
theorem rd_part2 {r : List Str} {i k : Nat} {st : Sk} (h : ¬ 8 < st.length) : rd ("part" :: r) i k st = rd r (i + 1) (k + 1) (((k + 1 : Nat),[]) :: st):=by
 conv=>lhs; unfold rd
 rw [if_neg pe_ne,if_pos rfl,if_neg h]
theorem rd_none {x : Str} {r : List Str} {i k : Nat} {st : Sk} (h1 : x ≠ "end") (h2 : x ≠ "part") (h : pR ((k + 1 : Nat) : Int) x = none) : rd (x :: r) i k st = .row i:=by
 unfold rd
 rw [if_neg h1,if_neg h2,h]
theorem rd_some {x : Str} {r : List Str} {i k : Nat} {st : Sk} {t : Th} (h1 : x ≠ "end") (h2 : x ≠ "part") (h : pR ((k + 1 : Nat) : Int) x = some t) : rd (x :: r) i k st = rd r (i + 1) (k + 1) (push t st):=by
 conv=>lhs; unfold rd
 rw [if_neg h1,if_neg h2,h]
theorem cutR_mem {ls : List Str} {y : Str} (h : y ∈ cutR ls) : y ∈ ls:=by
 unfold cutR at h
 split at h
 ·exact nomatch h
 ·exact h
theorem cutR_len (ls : List Str) : (cutR ls).length <= ls.length:=by
 unfold cutR
 split
 ·exact Nat.zero_le _
 ·exact Nat.le_refl _
theorem exc_same {H H2 : Hp} {e d : Addr} {o1 o2 o3 : HO} (g : Same H H2) (he : H2 e = none) (hd : upd H2 e o1 d = none) (ne : d ≠ e) : Same H (forget e (upd (upd (upd H2 e o1) e o2) d o3)):=fun b o z=>by
 have z2:=g b o z
 have b1 : b ≠ e:=fun y=>by rw [y,he] at z2; cases z2
 have b2 : b ≠ d:=fun y=>by rw [upd_ne ne,<- y,z2] at hd; cases hd
 rw [forget_ne b1,upd_ne b2,upd_ne b1,upd_ne b1]
 exact z2
theorem exc_there {H2 : Hp} {e d : Addr} {o1 o2 o3 : HO} (ne : d ≠ e) : forget e (upd (upd (upd H2 e o1) e o2) d o3) d = some o3 /\ upd (upd (upd H2 e o1) e o2) d o3 e = some o2:=⟨by rw [forget_ne ne,upd_same],by rw [upd_ne ne.symm,upd_same]⟩
section
variable {P : Program} {w : World} {K : PySem.W.Frag} {mg : Str -> Option Value} {base : Heap} {f : Addr} {fd : FuncData} {CR CD CE fI : Addr} {fdI : FuncData}
theorem lenD : 100 + (1921 + (100 + (1921 + 0))) <= sizeLine:=by decide
theorem log_small {i : Int} (h : i.natAbs <= 1000) : i.natAbs.log2 < 1920:=by
 by_cases z : i.natAbs = 0
 ·rw [z]; decide
 ·have a:=Nat.log2_le_self i.natAbs
  omega
set_option maxHeartbeats 32000000 in
theorem ok_readw (F : Fun K "read" "read" s_read f fd) (T : Tw K mg) (TT : TR K mg CR CD CE fI) (FI : FnOk P w K mg base CX0 1 fI fdI ["self","row"] (spInit K)) (bI : Binds K fdI ["self","row"] []) (GC : Def P w K mg base CX0 1 "cut_in_rows" ["text"] spCIRw) (GE : Def P w K mg base CX0 1 "end_part" ["unended"] spEP) (GR : Def P w K mg base (CXX P w) 6 "read_row" ["row","number"] spRRw) : FnOk P w K mg base (CXY P w) 7 f fd ["text"] (spReadW CR CD CE):=by
 refine F.okX scRead (fun vs H Q E h=>?_) (fun cdv A outer s H vs Q E hr h=>?_)
 ·obtain ⟨ls,rfl,_⟩:=h
  rfl
 obtain ⟨ls,rfl,hls,hz,h900,q1,q2,q3,q4⟩:=h
 obtain ⟨t8,h8⟩:=T.deep
 refine ⟨_,pss_cons (ps_set (i:=1) scRead.nd rfl (Or.inl rfl) (pe_lst (pa_cons (pe_tup (pa_cons pe_int (pa_cons (pe_lst pa_nil) pa_nil))) pa_nil)))
  (pss_cons (ps_set (i:=2) scRead.nd rfl (Or.inl rfl) pe_int)
  (pss_cons (ps_for PassesOwn.leaving rfl (pi_enum rfl T.enum (pa_cons (pe_dY GC no0 hr (by decide) (pa_cons (pv 0) pa_nil)) pa_nil)) (pg_tup rfl (pgs_cons (pg_name (i:=3) scRead.nd rfl (Or.inl rfl)) (pgs_cons (pg_name (i:=4) scRead.nd rfl (Or.inl rfl)) pgs_nil)))
   (pss_cons (ps_if (pt_cmpR op_eq (pv 4) pe_str (nomark _))
    (pss_cons (ps_if (pt_cmpR op_eq (pe_callB call_len_seq rfl T.len PySem.boot_len (pa_cons (pv 1) pa_nil)) pe_int (nomark _)) (pss_one (ps_raiseI (E:=E) lies_dictD rfl rfl TT.mR TT.kR PySem.F.excBase_ValueError FI (hr.mono (by decide)) bI pass0 (pa_cons (pv 3) pa_nil))) pss_nil)
    (pss_cons (ps_expr (pe_dY GE no0 hr (by decide) (pa_cons (pv 1) pa_nil)))
    (pss_one ps_continue))) pss_nil)
   (pss_cons (ps_aug (i:=2) scRead.nd rfl (Or.inl rfl) pe_int ip_add)
   (pss_cons (ps_if (pt_cmpR op_eq (pv 4) pe_str (nomark _))
    (pss_cons (ps_if (pt_cmpR op_gt (pe_callB call_len_seq rfl T.len PySem.boot_len (pa_cons (pv 1) pa_nil)) (pe_glob (v:=.int 8) rfl h8 ⟨_,rfl⟩) (nomark _)) (pss_one (ps_raise (E:=E) liesY rfl rfl TT.mD TT.kD PySem.F.excBase_ValueError (pa_cons (pe_fstr (t:=fun σ _=>∃ (u0 u1 u2 u4 u5 : Option V) (i : Nat),σ = [u0,u1,u2,some (.int (i : Nat)),u4,u5] /\ i <= 1000)
      (pfs_cons (pf_const (n:=100) (by decide +kernel)) (pfs_cons (pf_int (pv 3) (fun σ H h=>by obtain ⟨u0,u1,u2,u4,u5,i,e,hi⟩:=h; exact ⟨_,by rw [e]; rfl,_,rfl,log_small (by omega),rfl⟩)) (pfs_cons (pf_const (n:=100) (by decide +kernel)) (pfs_cons (pf_int (pe_glob (v:=.int 8) rfl h8 ⟨_,rfl⟩) (fun σ H _=>⟨_,rfl,by decide,rfl⟩)) pfs_nil)))) lenD) pa_nil))) pss_nil)
    (pss_cons (ps_expr (pe_bm PySem.F.plainAttrs_list PySem.F.slot_list_append PySem.F.type_list_append mt_append (pv 1) (pa_cons (pe_tup (pa_cons (pv 2) (pa_cons (pe_lst pa_nil) pa_nil))) pa_nil)))
    (pss_one ps_continue))) pss_nil)
   (pss_cons (ps_set (i:=5) scRead.nd rfl (Or.inl rfl) (pe_dY GR noX hr (by decide) (pa_cons (pv 4) (pa_cons (pv 2) pa_nil))))
   (pss_cons (ps_if (pt_cmpR op_isN (pv 5) pe_non (nomark _)) (pss_one (ps_raiseI (E:=E) lies_dictD rfl rfl TT.mR TT.kR PySem.F.excBase_ValueError FI (hr.mono (by decide)) bI pass0 (pa_cons (pv 3) pa_nil))) pss_nil)
   (pss_one (ps_expr (pe_bm PySem.F.plainAttrs_list PySem.F.slot_list_append PySem.F.type_list_append mt_append (pe_ix ix_tup (pe_ix ix_list (pv 1) (pe_un un_neg pe_int) (fun _ _=>rfl)) pe_int (fun _ _=>rfl)) (pa_cons (pv 5) pa_nil))))))))))
  (pss_cons (ps_if (pt_cmpR op_gt (pe_callB call_len_seq rfl T.len PySem.boot_len (pa_cons (pv 1) pa_nil)) pe_int (nomark _)) (pss_one (ps_raise (E:=E) liesY rfl rfl TT.mE TT.kE PySem.F.excBase_ValueError (pa_cons pe_str pa_nil))) pss_nil)
  (pss_one (ps_ret (pe_tup (pa_cons pe_str (pa_cons pe_int (pa_cons (pe_callTy call_tuple_of rfl T.tuple PyProof.Rows.boot_tuple (pa_cons (pe_ix ix_tup (pe_ix ix_list (pv 1) pe_int (fun _ _=>rfl)) pe_int (fun _ _=>rfl)) pa_nil)) pa_nil))))))))),?_⟩
 have hb:=big
 have hcl:=cutR_len ls
 refine ⟨(by show 0 <= sizeLine; decide),fun l0 hl0=>?_⟩
 have ga:=same_new hl0 (.lst [])
 have ea : upd H l0 (.lst []) l0 = some (.lst []):=upd_same
 generalize upd H l0 (.lst []) = Ha at ga ea ⊢
 refine ⟨(by show 2 <= sizeLine; decide),fun p0 hp0=>?_⟩
 have gb:=same_new hp0 (.tup [.int 0,.ref l0])
 have eb : upd Ha p0 (.tup [.int 0,.ref l0]) p0 = some (.tup [.int 0,.ref l0]):=upd_same
 generalize upd Ha p0 (.tup [.int 0,.ref l0]) = Hb at gb eb ⊢
 refine ⟨(by show 1 <= sizeLine; decide),fun u hu=>?_⟩
 have gc:=same_new hu (.lst [.ref p0])
 have ec : upd Hb u (.lst [.ref p0]) u = some (.lst [.ref p0]):=upd_same
 have nul : u ≠ l0:=fun z=>by rw [z,gb _ _ ea] at hu; cases hu
 have fu : H u = none:=(ga.trans gb).free hu
 generalize upd Hb u (.lst [.ref p0]) = Hc at gc ec ⊢
 have gH:=(ga.trans gb).trans gc
 refine ⟨_,rfl,ls,rfl,fun y hy=>(hls y hy).1,hz,fun rp H1 g1 hrc er=>?_⟩
 have hrows : ∀ y ∈ cutR ls,10 ∉ cs y /\ Tx y:=fun y hy=>hls y (cutR_mem hy)
 have hrl : (cutR ls).length <= 900:=by omega
 clear hcl h900 hls
 generalize cutR ls = rs at er q1 q2 q3 q4 hrows hrl ⊢
 have e1u:=g1 _ _ ec
 have e1p:=g1 _ _ (gc _ _ eb)
 have e1l:=g1 _ _ (gc _ _ (gb _ _ ea))
 have gH1:=gH.trans g1
 have S0 : StR (rem2 H1 u l0) H1 u [(0,[])] [(p0,l0)]:=by
  refine ⟨rem2_same _ _ _,e1u,.cons ⟨e1p,[],e1l,.nil⟩ .nil,by simpa using nul,fun a ha=>?_⟩
  simp only [List.map_cons,List.map_nil,List.mem_cons,List.not_mem_nil,or_false] at ha
  unfold rem2
  rcases ha with rfl | rfl
  ·rw [if_pos rfl]
  ·rw [if_neg nul.symm,if_pos rfl]
 have hrp : rem2 H1 u l0 rp = some (.lst (rs.map V.str)):=by
  unfold rem2
  rw [if_neg (fun z=>by rw [z,ec] at hrc; cases hrc),if_neg (fun z=>by rw [z,gc _ _ (gb _ _ ea)] at hrc; cases hrc)]
  exact er
 have keepH : Same H (rem2 H1 u l0):=rem2_of gH1 fu hl0
 clear e1u e1p e1l gH1 gH nul hrc g1 ga gb gc ea eb ec hl0 hp0 hu fu
 refine ⟨rp,_,rfl,SqL.of er,?_⟩
 clear er
 refine for_enum (K:=K) (a:=rp) (xs:=rs.map V.str) (fun i σ' H'=>∃ (k : Nat) (st : Sk) (es : List (Addr × Addr)) (u3 u4 u5 : Option V),σ' = [some (.str (Str.join "\n" ls)),some (.ref u),some (.int (k : Nat)),u3,u4,u5] /\ StR (rem2 H1 u l0) H' u st es /\ (1 <= st.length /\ st.length <= 9) /\ rd (rs.drop i) i k st = rd rs 0 0 [(0,[])] /\ ∀ x ∈ st,x.2.length <= i) ?_ (fun i σ' H' _ ⟨_,_,_,_,_,_,_,S,_⟩=>SqL.of (S.same _ _ hrp)) ?_ ?_
 ·exact ⟨0,_,_,none,none,none,rfl,S0,⟨by decide,by decide⟩,by rw [List.drop_zero],fun x hx=>by rw [List.mem_singleton.mp hx]; exact Nat.le_refl _⟩
 ·rintro i x σ' H' pe hi ⟨k,st,es,u3,u4,u5,rfl,S,hst,hrd,hsz⟩ hpe
  rw [List.getElem?_map] at hi
  cases hy : rs[i]? with
  | none=>rw [hy] at hi; cases hi
  | some y =>
   rw [hy] at hi
   cases hi
   have hil:=(List.getElem?_eq_some_iff.mp hy).1
   have hcons : rs.drop i = y :: rs.drop (i + 1):=by
    rw [List.drop_eq_getElem_cons hil]
    congr 1
    exact (List.getElem?_eq_some_iff.mp hy).2
   rw [hcons] at hrd
   have hym : y ∈ rs:=List.mem_of_getElem? hy
   have gp:=same_new hpe (.tup [.int (i : Nat),.str y])
   have S1 : StR (rem2 H1 u l0) (upd H' pe (.tup [.int (i : Nat),.str y])) u st es:=S.mv gp
   have ep : upd H' pe (.tup [.int (i : Nat),.str y]) pe = some (.tup [.int (i : Nat),.str y]):=upd_same
   generalize upd H' pe (.tup [.int (i : Nat),.str y]) = H2 at S1 ep ⊢
   clear S gp hpe
   have gH2 : Same H H2:=keepH.trans S1.same
   refine ⟨pe,_,rfl,SqT.of ep,rfl,_,_,rfl,_,_,rfl,rfl,?_⟩
   have hesl:=paired_lenM S1.lv
   refine ⟨_,rfl,rfl,_,rfl,?_⟩
   refine ite2 (fun z=>?_) (fun z=>?_)
   ·have ey : y = "end":=V.str.inj (of_decide_eq_true z)
    subst ey
    refine ⟨_,rfl,u,_,rfl,.inl (SqL.of S1.hu),rfl,_,rfl,?_⟩
    rw [List.length_map,List.length_reverse,<- hesl]
    refine ite2 (fun z=>?_) (fun z=>?_)
    ·have z1 : st.length = 1:=by
      have:=V.int.inj (of_decide_eq_true z)
      omega
     rw [rd_end1 z1] at hrd
     exact ⟨_,rfl,(by show 1 <= sizeLine; decide),fun e he=>⟨e,CR,_,rfl,upd_same,TT.xR,fun d hd ne=>⟨rfl,d,(exc_there ne).2,q2 i hrd.symm d _ (exc_same gH2 he hd ne) (exc_there ne).1⟩⟩⟩
    ·have z1 : st.length ≠ 1:=fun w=>z (by rw [w]; rfl)
     rw [rd_end2 z1] at hrd
     match st,S1,hst,z1,hrd,hsz with
     | (n,ts) :: (m,us) :: s,S1,hst,z1,hrd,hsz =>
      have hus:=hsz (m,us) (by simp)
      refine ⟨_,rfl,_,u,n,m,ts,us,s,es,rfl,S1,by show us.length <= 1000; have : us.length <= i:=hus; omega,fun H3 es3 S3=>?_⟩
      refine ⟨k,_,es3,_,_,_,rfl,S3,⟨by show 1 <= s.length + 1; omega,by show s.length + 1 <= 9; have : s.length + 1 + 1 <= 9:=hst.2; omega⟩,hrd,fun x hx=>?_⟩
      rcases List.mem_cons.mp hx with z | z
      ·rw [z]
       show (us ++ [_]).length <= i + 1
       rw [List.length_append]
       have : us.length <= i:=hus
       show us.length + 1 <= _
       omega
      ·have:=hsz x (List.mem_cons_of_mem _ (List.mem_cons_of_mem _ z))
       omega
     | [x],_,_,z1,_,_=>exact absurd rfl z1
     | [],_,hst,_,_,_=>exact absurd hst.1 (by decide)
   ·have ny : y ≠ "end":=fun w=>z (by rw [w]; exact decide_eq_true rfl)
    refine ⟨_,rfl,_,_,rfl,rfl,?_⟩
    refine ⟨_,rfl,rfl,_,rfl,?_⟩
    refine ite2 (fun z=>?_) (fun z=>?_)
    ·have ey : y = "part":=V.str.inj (of_decide_eq_true z)
     subst ey
     refine ⟨_,rfl,u,_,rfl,.inl (SqL.of S1.hu),_,_,rfl,rfl,_,rfl,?_⟩
     rw [List.length_map,List.length_reverse,<- hesl]
     refine ite2 (fun z=>?_) (fun z=>?_)
     ·have z1 : 8 < st.length:=by
       have:=of_decide_eq_true z
       omega
      rw [rd_part1 z1] at hrd
      exact ⟨⟨_,_,_,_,_,i,rfl,by omega⟩,fun y=>⟨(by show 1 <= sizeLine; decide),q3 hrd.symm H2 gH2⟩⟩
     ·have z1 : ¬ 8 < st.length:=fun w=>z (decide_eq_true (by omega))
      rw [rd_part2 z1] at hrd
      refine ⟨_,rfl,.inl ⟨rfl,_,SqL.of S1.hu⟩,_,rfl,(by show 0 <= sizeLine; decide),fun l hl=>?_⟩
      refine ⟨(by show 2 <= sizeLine; decide),fun p hp=>?_⟩
      have hu3:=((same_new hl (.lst [])).trans (same_new hp (.tup [.int ((k : Nat) + 1),.ref l]))) _ _ S1.hu
      refine ⟨u,_,_,rfl,rfl,hu3,by rw [List.length_map,List.length_reverse,<- hesl]; omega,?_⟩
      refine ⟨k + 1,_,_,_,_,_,rfl,S1.opn hl hp,⟨by show 1 <= st.length + 1; omega,by show st.length + 1 <= 9; omega⟩,hrd,fun x hx=>?_⟩
      rcases List.mem_cons.mp hx with z | z
      ·rw [z]; exact Nat.zero_le _
      ·have:=hsz x z
       omega
    ·have np : y ≠ "part":=fun w=>z (by rw [w]; exact decide_eq_true rfl)
     refine ⟨_,rfl,_,rfl,y,((k + 1 : Nat) : Int),rfl,(hrows y hym).2,fun t ht v H3 g3 h3=>?_,fun hn H3 g3=>?_⟩
     ·rw [rd_some ny np ht] at hrd
      obtain ⟨va,vxs,rfl,_⟩:=thR_head h3
      refine ⟨_,rfl,rfl,_,rfl,?_⟩
      refine ite2 (fun z=>absurd (of_decide_eq_true z) (by intro z; cases z)) (fun _=>?_)
      have S3:=S1.mv g3
      have lv:=S3.lv
      match st,es,lv,S3,hst,hrd,hsz with
      | (n,ts) :: s,(p,l) :: es',.cons ⟨a1,xs,b1,c1⟩ r1,S3,hst,hrd,hsz =>
       have hu3:=S3.hu
       rw [rev_ref] at hu3
       have hxl : xs.length <= i:=by rw [<- paired_lenM c1]; exact hsz (n,ts) List.mem_cons_self
       refine ⟨_,rfl,1,rfl,u,_,_,_,rfl,rfl,SqL.of hu3,atI_last _ _,p,_,_,_,rfl,rfl,SqT.of a1,rfl,.inl ⟨rfl,_,SqL.of b1⟩,_,rfl,l,_,_,rfl,rfl,b1,by omega,?_⟩
       refine ⟨k + 1,_,_,_,_,_,rfl,S3.add b1 c1 h3,hst,hrd,?_⟩
       intro x hx
       rcases List.mem_cons.mp hx with z | z
       ·rw [z]
        show (ts ++ [_]).length <= i + 1
        have : ts.length <= i:=hsz (n,ts) List.mem_cons_self
        rw [List.length_append]
        show ts.length + 1 <= _
        omega
       ·have:=hsz x (List.mem_cons_of_mem _ z)
        omega
      | [],_,_,_,hst,_,_=>exact absurd hst.1 (by decide)
     ·rw [rd_none ny np hn] at hrd
      refine ⟨_,rfl,rfl,_,rfl,?_⟩
      refine ite2 (fun _=>?_) (fun z=>absurd (decide_eq_true rfl) z)
      exact ⟨_,rfl,(by show 1 <= sizeLine; decide),fun e he=>⟨e,CR,_,rfl,upd_same,TT.xR,fun d hd ne=>⟨rfl,d,(exc_there ne).2,q2 i hrd.symm d _ (exc_same (gH2.trans g3) he hd ne) (exc_there ne).1⟩⟩⟩
 ·rintro σ' H' ⟨k,st,es,u3,u4,u5,rfl,S,hst,hrd,hsz⟩
  rw [List.length_map,List.drop_length] at hrd
  have hesl:=paired_lenM S.lv
  have gH' : Same H H':=keepH.trans S.same
  refine ⟨_,rfl,u,_,rfl,.inl (SqL.of S.hu),_,_,rfl,rfl,_,rfl,?_⟩
  rw [List.length_map,List.length_reverse,<- hesl]
  refine ite2 (fun z=>?_) (fun z=>?_)
  ·have z1 : 1 < st.length:=by
    have:=of_decide_eq_true z
    omega
   have eo : rd [] rs.length k st = .opn:=by
    match st,z1 with
    | _ :: _ :: _,_=>rfl
   rw [eo] at hrd
   exact ⟨(by show 1 <= sizeLine; decide),q4 hrd.symm H' gH'⟩
  ·have z1 : ¬ 1 < st.length:=fun w=>z (decide_eq_true (by omega))
   have lv:=S.lv
   match st,es,lv,S,hst,hrd with
   | [(n,ts)],[(p,l)],.cons ⟨a1,xs,b1,c1⟩ .nil,S,_,hrd =>
    refine ⟨_,rfl,u,_,_,_,rfl,rfl,SqL.of S.hu,rfl,p,_,_,_,rfl,rfl,SqT.of a1,rfl,l,xs,rfl,.inl ⟨SqL.of b1,fun t ht=>?_⟩⟩
    have gC:=same_new ht (.tup xs)
    refine ⟨(by show 3 <= sizeLine; decide),fun p9 hp9=>?_⟩
    have gD:=same_new hp9 (.tup [.str "part",.int 0,.ref t])
    refine q1 ts hrd.symm _ _ (gH'.trans (gC.trans gD)) ⟨p9,t,xs,rfl,upd_same,gD _ _ upd_same,fR_iff.mpr ?_⟩
    rw [ths_of]
    exact c1.mono (gC.trans gD).t
   | _ :: _ :: _,_,_,_,_,_=>exact absurd (by simp) z1
   | [],_,_,_,hst,_=>exact absurd hst.1 (by decide)
end
end D
namespace D
open PySem L2
structure KX (K : PySem.W.Frag) (C CR CD CE CN CF CG : Addr) (b1 b2 b3 : Bool) : Prop where
 x : XCls K C
 e : PySem.W.exmOne K (.ref C) (.ref CG) = some true
 r : PySem.W.kitOne K (.ref C) (.ref CR) = some b1
 d : PySem.W.kitOne K (.ref C) (.ref CD) = some b2
 n : PySem.W.kitOne K (.ref C) (.ref CE) = some b3
 v : PySem.W.kitOne K (.ref C) (.type "ValueError") = some true
 w : PySem.W.kitOne K (.ref C) (.ref CN) = some false
 f : PySem.W.kitOne K (.ref C) (.ref CF) = some false
structure TT (K : PySem.W.Frag) (mg : Str -> Option Value) (CR CD CE CN CF CG : Addr) : Prop where
 mR : mg "NoRow" = some (.ref CR)
 mD : mg "TooDeep" = some (.ref CD)
 mE : mg "NoEnd" = some (.ref CE)
 mN : mg "NoWord" = some (.ref CN)
 mF : mg "NoForm" = some (.ref CF)
 mG : mg "GlossError" = some (.ref CG)
 mV : mg "ValueError" = none
 isi : mg "isinstance" = none
 kR : KX K CR CR CD CE CN CF CG true false false
 kD : KX K CD CR CD CE CN CF CG false true false
 kE : KX K CE CR CD CE CN CF CG false false true
 na : NoAttr K CR "row"
 hd : PySem.W.hasDictIn K CR = true
def toldP : Out -> Str × Int
 | .row n=>("row",(n : Nat))
 | .deep=>("deep",0)
 | .opn=>("open",0)
 | .fin _=>("none",0)
def spTold : Sp:=fun vs H Q _=>∃ ls : List Str,vs = [.str (Str.join "\n" ls)] /\ (∀ y ∈ ls,10 ∉ cs y /\ Tx y) /\ (Str.join "\n" ls).length + 2 <= sizeLine /\ ls.length <= 900 /\
 ∀ p H',Same H H' -> H' p = some (.tup [.str (toldP (rd (cutR ls) 0 0 [(0,[])])).1,.int (toldP (rd (cutR ls) 0 0 [(0,[])])).2]) -> Q (.ref p) H'
section
variable {P : Program} {w : World} {K : PySem.W.Frag} {mg : Str -> Option Value} {base : Heap} {f : Addr} {fd : FuncData} {CR CD CE CN CF CG : Addr}
theorem scTold : FnScope ["_law_text","_law_told_here","e","_law_some"] ["_law_text"] (defScope s_l_told):=⟨rfl,rfl,rfl,by decide +kernel,rfl,by decide +kernel,by decide +kernel⟩
set_option maxHeartbeats 8000000 in
theorem ok_told (F : Fun K "_law_told" "_law_told" s_l_told f fd) (T : TT K mg CR CD CE CN CF CG) (GR : Def P w K mg base (CXY P w) 7 "read" ["text"] (spReadW CR CD CE)) : FnOk P w K mg base CX0 8 f fd ["_law_text"] spTold:=by
 refine F.ok scTold (fun vs H Q E h=>?_) (fun cdv A outer s H vs Q E hr h=>?_)
 ·obtain ⟨ls,rfl,_⟩:=h
  rfl
 obtain ⟨ls,rfl,hls,hz,h900,q⟩:=h
 have hu : (A.deeper (PyProof.Rows.envOfC "_law_told" (defScope s_l_told) s.heap.objs.size f cdv)).units < cLine:=hr.units0
 refine ⟨_,pss_cons (ps_set (i:=1) scTold.nd rfl (Or.inl rfl) (pe_tup (pa_cons pe_str (pa_cons pe_int pa_nil))))
  (pss_cons (ps_tryY (i:=2) (Ex:=fun C d H'=>Same H H' /\ ((C = .ref CR /\ ∃ n d0,rd (cutR ls) 0 0 [(0,[])] = .row n /\ d = some d0 /\ H' d0 = some (.xd [("row",.int (n : Nat))])) ∨ (C = .ref CD /\ d = none /\ rd (cutR ls) 0 0 [(0,[])] = .deep) ∨ (C = .ref CE /\ d = none /\ rd (cutR ls) 0 0 [(0,[])] = .opn))) rfl rfl rfl T.mG scTold.nd rfl rfl rfl
   (fun pn E' hp=>pss_one (ps_expr (pe_defE GR (hr.mono (by decide)) hp (pa_cons (pv 0) pa_nil))))
   (fun e=>pss_cons (ps_set (i:=1) scTold.nd rfl (Or.inl rfl) (pe_tup (pa_cons pe_str (pa_cons pe_int pa_nil))))
    (pss_cons (ps_set (i:=3) scTold.nd rfl (Or.inl rfl) (pe_lst (pa_cons (pe_isY (K:=K) rfl rfl T.isi PyProof.Rows.boot_isinstance (pa_cons (pv 2) (pa_cons (pe_glob (v:=.ref CR) rfl T.mR rfl) pa_nil))) (pa_cons (pe_isY (K:=K) rfl rfl T.isi PyProof.Rows.boot_isinstance (pa_cons (pv 2) (pa_cons (pe_glob (v:=.ref CD) rfl T.mD rfl) pa_nil))) (pa_cons (pe_isY (K:=K) rfl rfl T.isi PyProof.Rows.boot_isinstance (pa_cons (pv 2) (pa_cons (pe_glob (v:=.ref CE) rfl T.mE rfl) pa_nil))) pa_nil)))))
    (pss_one (ps_if (PW.pt (pw_and (pt_val (pe_isY (K:=K) rfl rfl T.isi PyProof.Rows.boot_isinstance (pa_cons (pv 2) (pa_cons (pe_bltn (v:=.ty "ValueError") rfl T.mV PyProof.Rows.Boot.«ValueError» rfl) pa_nil)))) (pw_and (pt_not (pt_val (pe_isY (K:=K) rfl rfl T.isi PyProof.Rows.boot_isinstance (pa_cons (pv 2) (pa_cons (pe_glob (v:=.ref CN) rfl T.mN rfl) pa_nil))))) (pw_and1 (pt_not (pt_val (pe_isY (K:=K) rfl rfl T.isi PyProof.Rows.boot_isinstance (pa_cons (pv 2) (pa_cons (pe_glob (v:=.ref CF) rfl T.mF rfl) pa_nil)))))))))
     (pss_cons (ps_if (pt_cmpR (op_eqLstK (K:=K) rfl eqok_bl hu) (pv 3) (pe_lst (pa_cons pe_bl (pa_cons pe_bl (pa_cons pe_bl pa_nil)))) (nomark _)) (pss_one (ps_set (i:=1) scTold.nd rfl (Or.inl rfl) (pe_tup (pa_cons pe_str (pa_cons (pe_xfldK (K:=K) rfl (pv 2) rfl) pa_nil))))) pss_nil)
     (pss_cons (ps_if (pt_cmpR (op_eqLstK (K:=K) rfl eqok_bl hu) (pv 3) (pe_lst (pa_cons pe_bl (pa_cons pe_bl (pa_cons pe_bl pa_nil)))) (nomark _)) (pss_one (ps_set (i:=1) scTold.nd rfl (Or.inl rfl) (pe_tup (pa_cons pe_str (pa_cons pe_int pa_nil))))) pss_nil)
     (pss_one (ps_if (pt_cmpR (op_eqLstK (K:=K) rfl eqok_bl hu) (pv 3) (pe_lst (pa_cons pe_bl (pa_cons pe_bl (pa_cons pe_bl pa_nil)))) (nomark _)) (pss_one (ps_set (i:=1) scTold.nd rfl (Or.inl rfl) (pe_tup (pa_cons pe_str (pa_cons pe_int pa_nil))))) pss_nil)))) pss_nil)))))
  (pss_one (ps_ret (pv 1)))),?_⟩
 refine ⟨(by show 2 <= sizeLine; decide),fun p0 hp0=>?_⟩
 have g0:=same_new hp0 (.tup [.str "none",.int 0])
 have e0 : upd H p0 (.tup [.str "none",.int 0]) p0 = some (.tup [.str "none",.int 0]):=upd_same
 generalize upd H p0 (.tup [.str "none",.int 0]) = H0 at g0 e0 ⊢
 refine ⟨fun C d H' σ' e hE hl he=>?_,?_⟩
 ·obtain ⟨g,hE⟩:=hE
  have key : ∃ (Ca : Addr) (b1 b2 b3 : Bool),C = .ref Ca /\ KX K Ca CR CD CE CN CF CG b1 b2 b3 /\ ((b1 = true /\ b2 = false /\ b3 = false /\ Ca = CR /\ ∃ n d0,rd (cutR ls) 0 0 [(0,[])] = .row n /\ d = some d0 /\ H' d0 = some (.xd [("row",.int (n : Nat))])) ∨ (b1 = false /\ b2 = true /\ b3 = false /\ rd (cutR ls) 0 0 [(0,[])] = .deep) ∨ (b1 = false /\ b2 = false /\ b3 = true /\ rd (cutR ls) 0 0 [(0,[])] = .opn)):=by
   rcases hE with ⟨rfl,h⟩ | ⟨rfl,_,h⟩ | ⟨rfl,_,h⟩
   ·exact ⟨CR,true,false,false,rfl,T.kR,.inl ⟨rfl,rfl,rfl,rfl,h⟩⟩
   ·exact ⟨CD,false,true,false,rfl,T.kD,.inr (.inl ⟨rfl,rfl,rfl,h⟩)⟩
   ·exact ⟨CE,false,false,true,rfl,T.kE,.inr (.inr ⟨rfl,rfl,rfl,h⟩)⟩
  clear hE
  obtain ⟨Ca,b1,b2,b3,rfl,kx,hk⟩:=key
  refine ⟨Ca,rfl,kx.e,?_⟩
  have gx:=same_new he (.ext (IsExcD e Ca d))
  have ex : upd H' e (.ext (IsExcD e Ca d)) e = some (.ext (IsExcD e Ca d)):=upd_same
  generalize upd H' e (.ext (IsExcD e Ca d)) = H2 at gx ex ⊢
  refine ⟨(by show 2 <= sizeLine; decide),fun p1 hp1=>?_⟩
  have g1:=same_new hp1 (.tup [.str "other",.int 0])
  have e1 : upd H2 p1 (.tup [.str "other",.int 0]) p1 = some (.tup [.str "other",.int 0]):=upd_same
  have x1:=g1 _ _ ex
  generalize upd H2 p1 (.tup [.str "other",.int 0]) = H3 at g1 e1 x1 ⊢
  have l4 : (σ'.set 2 (some (V.ref e))).length = 4:=by rw [List.length_set]; exact hl
  show _
  have s2 : ((σ'.set 2 (some (V.ref e))).set 1 (some (V.ref p1)))[2]? = some (some (V.ref e)):=by
   rw [List.getElem?_set_ne (by decide),List.getElem?_set_self (by rw [hl]; show 2 < 4; decide)]
  refine ⟨_,s2,e,Ca,d,_,_,b1,rfl,x1,rfl,kx.x,kx.r,_,s2,e,Ca,d,_,_,b2,rfl,x1,rfl,kx.x,kx.d,_,s2,e,Ca,d,_,_,b3,rfl,x1,rfl,kx.x,kx.n,(by show 3 <= sizeLine; decide),fun p2 hp2=>?_⟩
  have g2:=same_new hp2 (.lst [.bl b1,.bl b2,.bl b3])
  have e2 : upd H3 p2 (.lst [.bl b1,.bl b2,.bl b3]) p2 = some (.lst [.bl b1,.bl b2,.bl b3]):=upd_same
  have x2:=g2 _ _ x1
  have e12:=g2 _ _ e1
  generalize upd H3 p2 (.lst [.bl b1,.bl b2,.bl b3]) = H4 at g2 e2 x2 e12 ⊢
  have t2 : (((σ'.set 2 (some (V.ref e))).set 1 (some (V.ref p1))).set 3 (some (V.ref p2)))[2]? = some (some (V.ref e)):=by
   rw [List.getElem?_set_ne (by decide)]; exact s2
  have t3 : (((σ'.set 2 (some (V.ref e))).set 1 (some (V.ref p1))).set 3 (some (V.ref p2)))[3]? = some (some (V.ref p2)):=List.getElem?_set_self (by rw [List.length_set,l4]; decide)
  have t1 : (((σ'.set 2 (some (V.ref e))).set 1 (some (V.ref p1))).set 3 (some (V.ref p2)))[1]? = some (some (V.ref p1)):=by
   rw [List.getElem?_set_ne (by decide),List.getElem?_set_self (by rw [l4]; decide)]
  have tl : (((σ'.set 2 (some (V.ref e))).set 1 (some (V.ref p1))).set 3 (some (V.ref p2))).length = 4:=by rw [List.length_set,List.length_set]; exact l4
  refine ⟨_,t2,e,Ca,d,_,_,true,rfl,x2,rfl,kx.x,kx.v,_,rfl,?_⟩
  refine iteT ?_
  refine ⟨_,t2,e,Ca,d,_,_,false,rfl,x2,rfl,kx.x,kx.w,_,rfl,?_⟩
  refine iteT ?_
  refine ⟨_,t2,e,Ca,d,_,_,false,rfl,x2,rfl,kx.x,kx.f,_,rfl,?_⟩
  refine iteT ?_
  have gz : Same H H4:=(g.trans gx).trans (g1.trans g2)
  have bls : ∀ (H' : Hp) (p : Addr) (c1 c2 c3 : Bool),H' p = some (.lst [.bl c1,.bl c2,.bl c3]) -> lstR K blR H' [c1,c2,c3] (.ref p):=fun H' p c1 c2 c3 z=>⟨p,_,rfl,SqL.of z,.cons rfl (.cons rfl (.cons rfl .nil))⟩
  refine ⟨_,t3,(by show 3 <= sizeLine; decide),fun p3 hp3=>?_⟩
  have g3:=same_new hp3 (.lst [.bl true,.bl false,.bl false])
  have e3 : upd H4 p3 (.lst [.bl true,.bl false,.bl false]) p3 = some (.lst [.bl true,.bl false,.bl false]):=upd_same
  have x3:=g3 _ _ x2
  have e23:=g3 _ _ e2
  have e13:=g3 _ _ e12
  generalize upd H4 p3 (.lst [.bl true,.bl false,.bl false]) = H5 at g3 e3 x3 e23 e13 ⊢
  refine ⟨[b1,b2,b3],[true,false,false],bls _ _ _ _ _ e23,bls _ _ _ _ _ e3,_,rfl,?_⟩
  rcases hk with ⟨rfl,rfl,rfl,rfl,n,d0,ho,rfl,hd0⟩ | ⟨rfl,rfl,rfl,ho⟩ | ⟨rfl,rfl,rfl,ho⟩
  ·refine iteT ?_
   have hd5:=g3 _ _ (g2 _ _ (g1 _ _ (gx _ _ hd0)))
   refine ⟨_,t2,e,Ca,d0,_,.int (n : Nat),rfl,x3,T.kR.x,T.na,T.hd,hd5,rfl,(by show 2 <= sizeLine; decide),fun p4 hp4=>?_⟩
   have g4:=same_new hp4 (.tup [.str "row",.int (n : Nat)])
   have e4 : upd H5 p4 (.tup [.str "row",.int (n : Nat)]) p4 = some (.tup [.str "row",.int (n : Nat)]):=upd_same
   have e24:=g4 _ _ e23
   generalize upd H5 p4 (.tup [.str "row",.int (n : Nat)]) = H6 at g4 e4 e24 ⊢
   have u3 : ((((σ'.set 2 (some (V.ref e))).set 1 (some (V.ref p1))).set 3 (some (V.ref p2))).set 1 (some (V.ref p4)))[3]? = some (some (V.ref p2)):=by rw [List.getElem?_set_ne (by decide)]; exact t3
   refine ⟨_,u3,(by show 3 <= sizeLine; decide),fun p5 hp5=>?_⟩
   have g5:=same_new hp5 (.lst [.bl false,.bl true,.bl false])
   refine ⟨[true,false,false],[false,true,false],bls _ _ _ _ _ (g5 _ _ e24),bls _ _ _ _ _ upd_same,_,rfl,?_⟩
   refine iteF ?_
   generalize upd H6 p5 (.lst [.bl false,.bl true,.bl false]) = H7 at g5 ⊢
   refine ⟨_,u3,(by show 3 <= sizeLine; decide),fun p6 hp6=>?_⟩
   have g6:=same_new hp6 (.lst [.bl false,.bl false,.bl true])
   refine ⟨[true,false,false],[false,false,true],bls _ _ _ _ _ (g6 _ _ (g5 _ _ e24)),bls _ _ _ _ _ upd_same,_,rfl,?_⟩
   refine iteF ?_
   refine ⟨_,?_,q p4 _ ((gz.trans g3).trans (g4.trans (g5.trans g6))) ?_⟩
   ·show (List.set _ 2 none)[1]? = _
    rw [List.getElem?_set_ne (by decide),List.getElem?_set_self (by rw [tl]; decide)]
   ·rw [ho]
    exact g6 _ _ (g5 _ _ e4)
  ·refine iteF ?_
   refine ⟨_,t3,(by show 3 <= sizeLine; decide),fun p5 hp5=>?_⟩
   have g5:=same_new hp5 (.lst [.bl false,.bl true,.bl false])
   refine ⟨[false,true,false],[false,true,false],bls _ _ _ _ _ (g5 _ _ e23),bls _ _ _ _ _ upd_same,_,rfl,?_⟩
   refine iteT ?_
   generalize upd H5 p5 (.lst [.bl false,.bl true,.bl false]) = H7 at g5 ⊢
   refine ⟨(by show 2 <= sizeLine; decide),fun p4 hp4=>?_⟩
   have g4:=same_new hp4 (.tup [.str "deep",.int 0])
   have e4 : upd H7 p4 (.tup [.str "deep",.int 0]) p4 = some (.tup [.str "deep",.int 0]):=upd_same
   have e24:=g4 _ _ (g5 _ _ e23)
   generalize upd H7 p4 (.tup [.str "deep",.int 0]) = H6 at g4 e4 e24 ⊢
   have u3 : ((((σ'.set 2 (some (V.ref e))).set 1 (some (V.ref p1))).set 3 (some (V.ref p2))).set 1 (some (V.ref p4)))[3]? = some (some (V.ref p2)):=by rw [List.getElem?_set_ne (by decide)]; exact t3
   refine ⟨_,u3,(by show 3 <= sizeLine; decide),fun p6 hp6=>?_⟩
   have g6:=same_new hp6 (.lst [.bl false,.bl false,.bl true])
   refine ⟨[false,true,false],[false,false,true],bls _ _ _ _ _ (g6 _ _ e24),bls _ _ _ _ _ upd_same,_,rfl,?_⟩
   refine iteF ?_
   refine ⟨_,?_,q p4 _ ((gz.trans g3).trans (g5.trans (g4.trans g6))) ?_⟩
   ·show (List.set _ 2 none)[1]? = _
    rw [List.getElem?_set_ne (by decide),List.getElem?_set_self (by rw [tl]; decide)]
   ·rw [ho]
    exact g6 _ _ e4
  ·refine iteF ?_
   refine ⟨_,t3,(by show 3 <= sizeLine; decide),fun p5 hp5=>?_⟩
   have g5:=same_new hp5 (.lst [.bl false,.bl true,.bl false])
   refine ⟨[false,false,true],[false,true,false],bls _ _ _ _ _ (g5 _ _ e23),bls _ _ _ _ _ upd_same,_,rfl,?_⟩
   refine iteF ?_
   generalize upd H5 p5 (.lst [.bl false,.bl true,.bl false]) = H7 at g5 ⊢
   refine ⟨_,t3,(by show 3 <= sizeLine; decide),fun p6 hp6=>?_⟩
   have g6:=same_new hp6 (.lst [.bl false,.bl false,.bl true])
   refine ⟨[false,false,true],[false,false,true],bls _ _ _ _ _ (g6 _ _ (g5 _ _ e23)),bls _ _ _ _ _ upd_same,_,rfl,?_⟩
   refine iteT ?_
   generalize upd H7 p6 (.lst [.bl false,.bl false,.bl true]) = H8 at g6 ⊢
   refine ⟨(by show 2 <= sizeLine; decide),fun p4 hp4=>?_⟩
   have g4:=same_new hp4 (.tup [.str "open",.int 0])
   refine ⟨_,?_,q p4 _ ((gz.trans g3).trans (g5.trans (g6.trans g4))) ?_⟩
   ·show (List.set _ 2 none)[1]? = _
    rw [List.getElem?_set_ne (by decide),List.getElem?_set_self (by rw [tl]; decide)]
   ·rw [ho]
    exact upd_same
 ·refine ⟨_,rfl,ls,rfl,hls,hz,h900,fun ts ho v H2 g2 _=>?_,fun n ho d H2 g2 hd=>⟨g0.trans g2,.inl ⟨rfl,n,d,ho,rfl,hd⟩⟩,fun ho H2 g2=>⟨g0.trans g2,.inr (.inl ⟨rfl,rfl,ho⟩)⟩,fun ho H2 g2=>⟨g0.trans g2,.inr (.inr ⟨rfl,rfl,ho⟩)⟩⟩
  refine ⟨_,rfl,q p0 H2 (g0.trans g2) ?_⟩
  rw [ho]
  exact g2 _ _ e0
end
end D
namespace D
open PySem L2
def prR (H : Hp) (l : Str × Str) (v : V) : Prop:=∃ p,v = .ref p /\ H p = some (.tup [.str l.1,.str l.2])
theorem prR.mono {H H' : Hp} {l : Str × Str} {v : V} (h : prR H l v) (g : TSame H H') : prR H' l v:=by
 obtain ⟨p,e,h⟩:=h
 exact ⟨p,e,g _ _ h⟩
abbrev prsR (H : Hp) : List (Str × Str) -> List V -> Prop:=Paired (prR H)
theorem prsR.mono {H H' : Hp} : ∀ {L : List (Str × Str)} {xs : List V},prsR H L xs -> TSame H H' -> prsR H' L xs
 | _,_,.nil,_=>.nil
 | _,_,.cons h r,g=>.cons (h.mono g) (prsR.mono r g)
def dueG : List (Str × Str) -> Nat -> Nat -> Str × Int
 | [],_,d=>if 0 < d then ("open",0) else ("none",0)
 | (k,_) :: r,i,d=>if k = "odd" ∨ (k = "end" /\ d = 0) then ("row",(i : Nat)) else if k = "part" /\ d = 8 then ("deep",0) else dueG r (i + 1) (d + (if k = "part" then 1 else 0) - (if k = "end" then 1 else 0))
def dueL (L : List (Str × Str)) : Str × Int:=if L = [] ∨ L = ([("odd","")] : List (Str × Str)) then ("none",0) else dueG L 0 0
def spDue : Sp:=fun vs H Q _=>∃ (a : Addr) (xs : List V) (L : List (Str × Str)),vs = [.ref a] /\ H a = some (.lst xs) /\ prsR H L xs /\ L.length <= 900 /\ ∀ p H',Same H H' -> H' p = some (.tup [.str (dueL L).1,.int (dueL L).2]) -> Q (.ref p) H'
theorem prs_lst {K : PySem.W.Frag} {H : Hp} {a : Addr} : ∀ {L : List (Str × Str)} {xs : List V},prsR H L xs -> Paired (tupR K strR H) (L.map fun l=>[l.1,l.2]) xs
 | _,_,.nil=>.nil
 | _,_,.cons ⟨p,e,h⟩ r=>.cons ⟨p,_,e,SqT.of h,.cons rfl (.cons rfl .nil)⟩ (prs_lst (a:=a) r)
theorem map2_inj : ∀ {L M : List (Str × Str)},(L.map fun l=>[l.1,l.2]) = (M.map fun l=>[l.1,l.2]) ↔ L = M
 | [],[]=>by simp
 | [],_ :: _=>by simp
 | _ :: _,[]=>by simp
 | (a,b) :: L,(c,d) :: M=>by
  rw [List.map_cons,List.map_cons,List.cons.injEq,List.cons.injEq,map2_inj (L:=L)]
  simp
theorem dueG_row {k x : Str} {r : List (Str × Str)} {i d : Nat} (h : k = "odd" ∨ (k = "end" /\ d = 0)) : dueG ((k,x) :: r) i d = (("row" : Str),((i : Nat) : Int)):=by
 unfold dueG
 rw [if_pos h]
theorem dueG_deep {k x : Str} {r : List (Str × Str)} {i d : Nat} (h : ¬ (k = "odd" ∨ (k = "end" /\ d = 0))) (h2 : k = "part" /\ d = 8) : dueG ((k,x) :: r) i d = (("deep" : Str),(0 : Int)):=by
 unfold dueG
 rw [if_neg h,if_pos h2]
theorem dueG_on {k x : Str} {r : List (Str × Str)} {i d : Nat} (h : ¬ (k = "odd" ∨ (k = "end" /\ d = 0))) (h2 : ¬ (k = "part" /\ d = 8)) : dueG ((k,x) :: r) i d = dueG r (i + 1) (d + (if k = "part" then 1 else 0) - (if k = "end" then 1 else 0)):=by
 conv=>lhs; unfold dueG
 rw [if_neg h,if_neg h2]
section
variable {P : Program} {w : World} {K : PySem.W.Frag} {mg : Str -> Option Value} {base : Heap} {f : Addr} {fd : FuncData}
theorem scDue : FnScope ["_law_lines_here","_law_deep","_law_at","_law_kind"] ["_law_lines_here"] (defScope s_l_due):=⟨rfl,rfl,rfl,by decide +kernel,rfl,by decide +kernel,by decide +kernel⟩
set_option maxHeartbeats 8000000 in
theorem ok_due (F : Fun K "_law_due" "_law_due" s_l_due f fd) (T : Nm mg) : FnOk P w K mg base CX0 1 f fd ["_law_lines_here"] spDue:=by
 refine F.ok scDue (fun vs H Q E h=>?_) (fun cdv A outer s H vs Q E hr h=>?_)
 ·obtain ⟨a,xs,L,rfl,_⟩:=h
  rfl
 obtain ⟨a,xs,L,rfl,ha,hL,h900,q⟩:=h
 have hu : (A.deeper (PyProof.Rows.envOfC "_law_due" (defScope s_l_due) s.heap.objs.size f cdv)).units < cLine:=hr.units0
 have hu1 : (A.deeper (PyProof.Rows.envOfC "_law_due" (defScope s_l_due) s.heap.objs.size f cdv)).in1.units < cLine:=by have:=hr.un; show _ + 1 < _; omega
 refine ⟨_,pss_cons (ps_if (PW.pt (pw_or (pt_cmpR (op_eqLst (eqok_tup eqok_str hu1) hu) (pv 0) (pe_lst pa_nil) (nomark _)) (pw_or1 (pt_cmpR (op_eqLst (eqok_tup eqok_str hu1) hu) (pv 0) (pe_lst (pa_cons (pe_tup (pa_cons pe_str (pa_cons pe_str pa_nil))) pa_nil)) (nomark _)))))
   (pss_one (ps_ret (pe_tup (pa_cons pe_str (pa_cons pe_int pa_nil))))) pss_nil)
  (pss_cons (ps_set (i:=1) scDue.nd rfl (Or.inl rfl) pe_int)
  (pss_cons (ps_for PassesOwn.never rfl (pi_range1 rfl T.range (pa_cons (pe_callB call_len_seq rfl T.len PySem.boot_len (pa_cons (pv 0) pa_nil)) pa_nil)) (pg_name (i:=2) scDue.nd rfl (Or.inl rfl))
   (pss_cons (ps_set (i:=3) scDue.nd rfl (Or.inl rfl) (pe_ix ix_tup (pe_ix ix_list (pv 0) (pv 2) (fun _ _=>rfl)) pe_int (fun _ _=>rfl)))
   (pss_cons (ps_if (PW.pt (pw_or (pt_cmpR op_eq (pv 3) pe_str (nomark _)) (pw_or1 (PW.pt (pw_and (pt_cmpR op_eq (pv 3) pe_str (nomark _)) (pw_and1 (pt_cmpR op_eq (pv 1) pe_int (nomark _)))))))) (pss_one (ps_ret (pe_tup (pa_cons pe_str (pa_cons (pv 2) pa_nil))))) pss_nil)
   (pss_cons (ps_if (PW.pt (pw_and (pt_cmpR op_eq (pv 3) pe_str (nomark _)) (pw_and1 (pt_cmpR op_eq (pv 1) pe_int (nomark _))))) (pss_one (ps_ret (pe_tup (pa_cons pe_str (pa_cons pe_int pa_nil))))) pss_nil)
   (pss_one (ps_set (i:=1) scDue.nd rfl (Or.inl rfl) (pe_op op_sub (pe_op op_add (pv 1) (pe_callTy call_int1 rfl T.int PyProof.Rows.boot_int (pa_cons (pe_cmpR op_eq (pv 3) pe_str (nomark _)) pa_nil))) (pe_callTy call_int1 rfl T.int PyProof.Rows.boot_int (pa_cons (pe_cmpR op_eq (pv 3) pe_str (nomark _)) pa_nil)))))))))
  (pss_one (ps_ret (pe_ix ix_list (pe_lst (pa_cons (pe_tup (pa_cons pe_str (pa_cons pe_int pa_nil))) (pa_cons (pe_tup (pa_cons pe_str (pa_cons pe_int pa_nil))) pa_nil))) (pe_callTy call_int1 rfl T.int PyProof.Rows.boot_int (pa_cons (pe_cmpR op_gt (pv 1) pe_int (nomark _)) pa_nil)) (fun _ _=>rfl)))))),?_⟩
 have hb:=big
 have hlen:=paired_lenM hL
 have lR : ∀ {H' : Hp},Same H H' -> lstR K (tupR K strR) H' (L.map fun l=>[l.1,l.2]) (.ref a):=fun {H'} g=>⟨a,xs,rfl,SqL.of (g _ _ ha),prs_lst (a:=a) (hL.mono g.t)⟩
 refine ⟨_,rfl,(by show 0 <= sizeLine; decide),fun p1 hp1=>?_⟩
 have g1:=same_new hp1 (.lst [])
 have e1 : upd H p1 (.lst []) p1 = some (.lst []):=upd_same
 generalize upd H p1 (.lst []) = H1 at g1 e1 ⊢
 refine ⟨_,[],lR g1,⟨p1,[],rfl,SqL.of e1,.nil⟩,_,rfl,?_⟩
 refine ite2 (fun z=>?_) (fun z=>?_)
 ·have z : L = []:=map2_inj.mp (of_decide_eq_true z)
  refine ⟨(by show 2 <= sizeLine; decide),fun p hp=>q p _ (g1.trans (same_new hp _)) ?_⟩
  rw [upd_same,show dueL L = (("none" : Str),(0 : Int)) by unfold dueL; rw [if_pos (.inl z)]]
 have n1 : L ≠ []:=fun w=>z (decide_eq_true (map2_inj.mpr w))
 clear z
 refine ⟨_,rfl,(by show 2 <= sizeLine; decide),fun p2 hp2=>?_⟩
 have g2:=same_new hp2 (.tup [.str "odd",.str ""])
 have e2 : upd H1 p2 (.tup [.str "odd",.str ""]) p2 = some (.tup [.str "odd",.str ""]):=upd_same
 generalize upd H1 p2 (.tup [.str "odd",.str ""]) = H2 at g2 e2 ⊢
 refine ⟨(by show 1 <= sizeLine; decide),fun p3 hp3=>?_⟩
 have g3:=same_new hp3 (.lst [.ref p2])
 have e3 : upd H2 p3 (.lst [.ref p2]) p3 = some (.lst [.ref p2]):=upd_same
 have e23:=g3 _ _ e2
 generalize upd H2 p3 (.lst [.ref p2]) = H3 at g3 e3 e23 ⊢
 have g:=(g1.trans g2).trans g3
 refine ⟨_,[["odd",""]],lR g,⟨p3,_,rfl,SqL.of e3,.cons ⟨p2,_,rfl,SqT.of e23,.cons rfl (.cons rfl .nil)⟩ .nil⟩,_,rfl,?_⟩
 refine ite2 (fun z=>?_) (fun z=>?_)
 ·have z : L = ([("odd","")] : List (Str × Str)):=map2_inj.mp (of_decide_eq_true z)
  refine ⟨(by show 2 <= sizeLine; decide),fun p hp=>q p _ (g.trans (same_new hp _)) ?_⟩
  rw [upd_same,show dueL L = (("none" : Str),(0 : Int)) by unfold dueL; rw [if_pos (.inr z)]]
 have n2 : L ≠ ([("odd","")] : List (Str × Str)):=fun w=>z (decide_eq_true (map2_inj.mpr w))
 clear z
 have eq0 : dueL L = dueG L 0 0:=by
  unfold dueL
  rw [if_neg (fun w=>w.elim n1 n2)]
 rw [eq0] at q
 clear eq0 n1 n2
 have ha3:=g _ _ ha
 have hL3:=hL.mono g.t
 refine ⟨_,rfl,a,_,rfl,.inl (SqL.of ha3),_,rfl,by omega,by omega,?_⟩
 refine for_range (lo:=0) (n:=xs.length) (fun i σ' H'=>Same H3 H' /\ ∃ (d : Nat) (u2 u3 : Option V),σ' = [some (.ref a),some (.int (d : Nat)),u2,u3] /\ d <= 8 /\ dueG (L.drop i) i d = dueG L 0 0) ?_ ?_ ?_
 ·exact ⟨Same.refl _,0,none,none,rfl,by decide,by rw [List.drop_zero]⟩
 ·rintro i σ' H' hi ⟨gi,d,u2,u3,rfl,hd,hdu⟩
  rw [show (0 : Int) + (i : Nat) = ((i : Nat) : Int) by omega]
  have hix : xs[i]? = some xs[i]:=List.getElem?_eq_getElem hi
  obtain ⟨⟨k,x⟩,hl,p,ep,hp⟩:=paired_get (hL3.mono gi.t) hix
  have hil:=(List.getElem?_eq_some_iff.mp hl).1
  have hcons : L.drop i = (k,x) :: L.drop (i + 1):=by
   rw [List.drop_eq_getElem_cons hil]
   congr 1
   exact (List.getElem?_eq_some_iff.mp hl).2
  rw [hcons] at hdu
  refine ⟨_,rfl,_,rfl,a,_,_,_,rfl,rfl,SqL.of (gi _ _ ha3),atI_nat (j:=i) (v:=xs[i]) hix,p,_,_,_,ep,rfl,SqT.of hp,atI_nat (j:=0) (v:=V.str k) rfl,?_⟩
  refine ⟨_,rfl,rfl,_,rfl,?_⟩
  have row : (k = "odd" ∨ (k = "end" /\ d = 0)) -> ∀ p H',Same H H' -> H' p = some (.tup [.str "row",.int (i : Nat)]) -> Q (.ref p) H':=fun z p H' g' h'=>q p H' g' (by rw [<- hdu,dueG_row z]; exact h')
  have gH : Same H H':=g.trans gi
  refine ite2 (fun z=>?_) (fun z=>?_)
  ·refine ⟨_,rfl,(by show 2 <= sizeLine; decide),fun p hp=>row (.inl (V.str.inj (of_decide_eq_true z))) p _ (gH.trans (same_new hp _)) upd_same⟩
  have k1 : k ≠ "odd":=fun w=>z (by rw [w]; exact decide_eq_true rfl)
  refine ⟨_,rfl,rfl,_,rfl,?_⟩
  have go : ¬ (k = "end" /\ d = 0) -> True:=fun _=>trivial
  clear go
  refine ite2 (fun z2=>?_) (fun z2=>?_)
  ·refine ⟨_,rfl,rfl,_,rfl,?_⟩
   have k2 : k = "end":=V.str.inj (of_decide_eq_true z2)
   subst k2
   refine ite2 (fun z3=>?_) (fun z3=>?_)
   ·have d0 : d = 0:=by have:=V.int.inj (of_decide_eq_true z3); omega
    exact ⟨_,rfl,(by show 2 <= sizeLine; decide),fun p hp=>row (.inr ⟨rfl,d0⟩) p _ (gH.trans (same_new hp _)) upd_same⟩
   ·have d0 : d ≠ 0:=fun w=>z3 (by rw [w]; rfl)
    have c1 : ¬ (("end" : Str) = "odd" ∨ (("end" : Str) = "end" /\ d = 0)):=fun w=>w.elim k1 fun y=>d0 y.2
    have c2 : ¬ (("end" : Str) = "part" /\ d = 8):=fun w=>absurd w.1 (by decide +kernel)
    rw [dueG_on c1 c2] at hdu
    refine ⟨_,rfl,rfl,_,rfl,?_⟩
    refine ite2 (fun z4=>absurd z4 (show ¬ decide (V.str "end" = V.str "part") = true by decide +kernel)) (fun _=>?_)
    refine ⟨_,rfl,_,rfl,rfl,.inr ⟨_,rfl,_,_,rfl,rfl,_,rfl,rfl,.inr ⟨_,rfl,_,_,rfl,rfl,?_⟩⟩⟩
    refine ⟨gi,d - 1,some (.int (i : Nat)),some (.str "end"),?_,by omega,?_⟩
    ·have e : ((d : Nat) : Int) + (if decide (V.str "end" = V.str "part") = true then 1 else 0) - (if decide (V.str "end" = V.str "end") = true then 1 else 0) = ((d - 1 : Nat) : Int):=by
      rw [if_neg (by decide +kernel),if_pos (by decide)]
      omega
     show [some (V.ref a),some (V.int (((d : Nat) : Int) + (if decide (V.str "end" = V.str "part") = true then 1 else 0) - (if decide (V.str "end" = V.str "end") = true then 1 else 0))),some (V.int (i : Nat)),some (V.str "end")] = _
     rw [e]
    ·rw [<- hdu,if_neg (by decide +kernel),if_pos rfl] <;> rfl
  ·have k2 : k ≠ "end":=fun w=>z2 (by rw [w]; exact decide_eq_true rfl)
   have c1 : ¬ (k = "odd" ∨ (k = "end" /\ d = 0)):=fun w=>w.elim k1 fun y=>k2 y.1
   refine ⟨_,rfl,rfl,_,rfl,?_⟩
   refine ite2 (fun z4=>?_) (fun z4=>?_)
   ·have k3 : k = "part":=V.str.inj (of_decide_eq_true z4)
    subst k3
    refine ⟨_,rfl,rfl,_,rfl,?_⟩
    refine ite2 (fun z5=>?_) (fun z5=>?_)
    ·have d8 : d = 8:=by have:=V.int.inj (of_decide_eq_true z5); omega
     refine ⟨(by show 2 <= sizeLine; decide),fun p hp=>q p _ (gH.trans (same_new hp _)) ?_⟩
     rw [<- hdu,dueG_deep c1 ⟨rfl,d8⟩]
     exact upd_same
    ·have d8 : d ≠ 8:=fun w=>z5 (by rw [w]; rfl)
     rw [dueG_on c1 (fun w=>d8 w.2)] at hdu
     refine ⟨_,rfl,_,rfl,rfl,.inr ⟨_,rfl,_,_,rfl,rfl,_,rfl,rfl,.inr ⟨_,rfl,_,_,rfl,rfl,?_⟩⟩⟩
     refine ⟨gi,d + 1,some (.int (i : Nat)),some (.str "part"),?_,by omega,?_⟩
     ·have e : ((d : Nat) : Int) + (if decide (V.str "part" = V.str "part") = true then 1 else 0) - (if decide (V.str "part" = V.str "end") = true then 1 else 0) = ((d + 1 : Nat) : Int):=by
       rw [if_neg (show ¬ decide (V.str "part" = V.str "end") = true by decide +kernel),if_pos (show decide (V.str "part" = V.str "part") = true by decide)]
       omega
      show [some (V.ref a),some (V.int (((d : Nat) : Int) + (if decide (V.str "part" = V.str "part") = true then 1 else 0) - (if decide (V.str "part" = V.str "end") = true then 1 else 0))),some (V.int (i : Nat)),some (V.str "part")] = _
      rw [e]
     ·rw [<- hdu,if_pos rfl,if_neg pe_ne] <;> rfl
   ·have k3 : k ≠ "part":=fun w=>z4 (by rw [w]; exact decide_eq_true rfl)
    rw [dueG_on c1 (fun w=>k3 w.1)] at hdu
    refine ⟨_,rfl,_,rfl,rfl,.inr ⟨_,rfl,_,_,rfl,rfl,_,rfl,rfl,.inr ⟨_,rfl,_,_,rfl,rfl,?_⟩⟩⟩
    refine ⟨gi,d,some (.int (i : Nat)),some (.str k),?_,by omega,?_⟩
    ·have e : ((d : Nat) : Int) + (if decide (V.str k = V.str "part") = true then 1 else 0) - (if decide (V.str k = V.str "end") = true then 1 else 0) = ((d : Nat) : Int):=by
      rw [if_neg z4,if_neg z2]
      omega
     show [some (V.ref a),some (V.int (((d : Nat) : Int) + (if decide (V.str k = V.str "part") = true then 1 else 0) - (if decide (V.str k = V.str "end") = true then 1 else 0))),some (V.int (i : Nat)),some (V.str k)] = _
     rw [e]
    ·rw [<- hdu,if_neg k3,if_neg k2] <;> rfl
 ·rintro σ' H' ⟨gi,d,u2,u3,rfl,hd,hdu⟩
  rw [<- hlen,List.drop_length] at hdu
  have gH : Same H H':=g.trans gi
  refine ⟨(by show 2 <= sizeLine; decide),fun p1 hp1=>?_⟩
  have g4:=same_new hp1 (.tup [.str "none",.int 0])
  have e4 : upd H' p1 (.tup [.str "none",.int 0]) p1 = some (.tup [.str "none",.int 0]):=upd_same
  generalize upd H' p1 (.tup [.str "none",.int 0]) = H4 at g4 e4 ⊢
  refine ⟨(by show 2 <= sizeLine; decide),fun p2 hp2=>?_⟩
  have g5:=same_new hp2 (.tup [.str "open",.int 0])
  have e5 : upd H4 p2 (.tup [.str "open",.int 0]) p2 = some (.tup [.str "open",.int 0]):=upd_same
  generalize upd H4 p2 (.tup [.str "open",.int 0]) = H5 at g5 e5 ⊢
  refine ⟨(by show 2 <= sizeLine; decide),fun p3 hp3=>?_⟩
  have g6:=same_new hp3 (.lst [.ref p1,.ref p2])
  have e6 : upd H5 p3 (.lst [.ref p1,.ref p2]) p3 = some (.lst [.ref p1,.ref p2]):=upd_same
  generalize upd H5 p3 (.lst [.ref p1,.ref p2]) = H6 at g6 e6 ⊢
  refine ⟨_,rfl,_,_,rfl,rfl,.inr ⟨_,rfl,?_⟩⟩
  have eo : dueG [] L.length d = if 0 < d then (("open" : Str),(0 : Int)) else (("none" : Str),(0 : Int)):=by unfold dueG; rfl
  rw [eo] at hdu
  by_cases d0 : 0 < d
  ·refine ⟨p3,_,_,.ref p2,rfl,rfl,SqL.of e6,?_,q p2 _ ((gH.trans g4).trans (g5.trans g6)) ?_⟩
   ·rw [show decide ((0 : Int) < ((d : Nat) : Int)) = true from decide_eq_true (by omega)]
    exact atI_nat (j:=1) rfl
   ·rw [<- hdu,if_pos d0]
    exact g6 _ _ e5
  ·refine ⟨p3,_,_,.ref p1,rfl,rfl,SqL.of e6,?_,q p1 _ ((gH.trans g4).trans (g5.trans g6)) ?_⟩
   ·rw [show decide ((0 : Int) < ((d : Nat) : Int)) = false from decide_eq_false (by omega)]
    exact atI_nat (j:=0) rfl
   ·rw [<- hdu,if_neg d0]
    exact g6 _ _ (g5 _ _ e4)
end
end D
namespace D
open PySem L2
structure Nc (x : Str) (l k : Nat) : Prop where
 len : x.length <= l
 ok : ∀ c ∈ cs x,c < 128 /\ c ≠ 10
 cnt : (cs x).count 58 <= k
def ncB (x : Str) : Bool:=decide (x.length <= 60) && (cs x).all (fun c=>decide (c < 128) && decide (c ≠ 10)) && decide ((cs x).count 58 <= 2)
theorem Nc.lit {x : Str} (h : ncB x = true) : Nc x 60 2:=by
 unfold ncB at h
 simp only [Bool.and_eq_true,decide_eq_true_eq,List.all_eq_true] at h
 exact ⟨h.1.1,h.1.2,h.2⟩
theorem Nc.app {x y : Str} {l k l' k' : Nat} (a : Nc x l k) (b : Nc y l' k') : Nc (x ++ y) (l + l') (k + k'):=by
 refine ⟨by rw [len_app]; exact Nat.add_le_add a.len b.len,fun c hc=>?_,by rw [cs_app,List.count_append]; exact Nat.add_le_add a.cnt b.cnt⟩
 rw [cs_app] at hc
 rcases List.mem_append.mp hc with z | z
 ·exact a.ok c z
 ·exact b.ok c z
theorem good_ok {c : Nat} (h : good c = true) : c < 128 /\ c ≠ 10:=⟨good_small h,fun z=>by rw [z] at h; cases h⟩
theorem Nc.w {x : Str} (h : Wd x) : Nc x 20 0:=by
 refine ⟨h.2.1,fun c hc=>good_ok (List.all_eq_true.mp h.2.2 c hc),?_⟩
 rw [List.count_eq_zero.mpr (good_free h.2.2 (by decide))]
 exact Nat.le_refl _
theorem Nc.le {x : Str} {l k l' k' : Nat} (a : Nc x l k) (h1 : l <= l') (h2 : k <= k') : Nc x l' k':=⟨Nat.le_trans a.len h1,a.ok,Nat.le_trans a.cnt h2⟩
def OddRow (x : Str) : Prop:=(∀ n,pR n x = none) /\ x ≠ "part" /\ x ≠ "end"
def OddN (x : Str) : Prop:=OddRow x /\ Nc x 5000 20
def Many (m : Str) : Prop:=∃ ws,m = Str.join " " ws /\ ws.length = 201 /\ ∀ x ∈ ws,Wd x
theorem Many.split {m : Str} (h : Many m) : pW m = none:=by
 obtain ⟨ws,rfl,h1,h2⟩:=h
 unfold pW
 have e : Txt.split (Str.join " " ws) " " = ws:=split_join (c:=32) (by intro z; rw [z] at h1; cases h1) fun y hy=>good_free (h2 y hy).2.2 (by decide)
 rw [e,if_pos (List.all_eq_true.mpr fun x hx=>isW_wd (h2 x hx)),if_neg (by omega)]
theorem Many.no {m : Str} (h : Many m) {c : Nat} (hc : good c = false) (h32 : c ≠ 32) : c ∉ cs m:=by
 obtain ⟨ws,rfl,h1,h2⟩:=h
 exact free_join (by rw [show cs (" " : Str) = [32] by decide +kernel]; simpa using h32) fun y hy=>good_free (h2 y hy).2.2 hc
theorem Nc.many {m : Str} (h : Many m) : Nc m 4300 0:=by
 have h58:=h.no (c:=58) (by decide) (by decide)
 refine ⟨?_,fun c hc=>?_,by rw [List.count_eq_zero.mpr h58]; exact Nat.le_refl _⟩
 ·obtain ⟨ws,rfl,h1,h2⟩:=h
  have:=join_len (z:=" ") (m:=20) (by decide +kernel) (ys:=ws) fun y hy=>(h2 y hy).2.1
  rw [h1] at this
  omega
 ·by_cases g : good c = true
  ·exact good_ok g
  ·have : c = 32:=Classical.byContradiction fun z=>h.no (Bool.eq_false_iff.mpr g) z hc
   rw [this]
   decide
theorem ne_long {x y : Str} (h : 5 <= x.length + y.length) : x ++ y ≠ "part" /\ x ++ y ≠ "end":=by
 have e1 : ("part" : Str).length = 4:=by decide +kernel
 have e2 : ("end" : Str).length = 3:=by decide +kernel
 refine ⟨fun z=>?_,fun z=>?_⟩
 ·have:=congrArg Str.length z
  rw [len_app,e1] at this
  omega
 ·have:=congrArg Str.length z
  rw [len_app,e2] at this
  omega
theorem first_app {x y : Str} {c : Nat} (h : (cs x).head? = some c) : (cs (x ++ y)).head? = some c:=by
 rw [cs_app]
 cases e : cs x with
 | nil=>rw [e] at h; cases h
 | cons a r=>rw [e] at h; exact h
theorem lit_none {x : Str} (h : ((!Txt.startswith x "say " || decide (pW (dropS 4 x) = none)) && (Txt.startswith x "say " || !Txt.startswith x "tell " || decide (pT (dropS 5 x) = none))) = true) (n : Int) : pR n x = none:=by
 unfold pR
 rw [Bool.and_eq_true] at h
 obtain ⟨h1,h2⟩:=h
 split
 ·rename_i e
  rw [e] at h1
  have z : pW (dropS 4 x) = none:=of_decide_eq_true h1
  rw [z] <;> rfl
 ·rename_i e
  split
  ·rename_i e2
   rw [Bool.eq_false_iff.mpr e,e2] at h2
   have z : pT (dropS 5 x) = none:=of_decide_eq_true h2
   rw [z] <;> rfl
  ·rfl
theorem lit_odd {x : Str} (h : ((!Txt.startswith x "say " || decide (pW (dropS 4 x) = none)) && (Txt.startswith x "say " || !Txt.startswith x "tell " || decide (pT (dropS 5 x) = none))) = true) (h1 : (decide (x ≠ "part") && decide (x ≠ "end") && ncB x) = true) : OddN x:=by
 simp only [Bool.and_eq_true,decide_eq_true_eq] at h1
 exact ⟨⟨lit_none h,h1.1.1,h1.1.2⟩,(Nc.lit h1.2).le (by decide) (by decide)⟩
theorem no_take {x y : Str} (h : (decide (5 <= x.length) && decide ((cs x).take 4 ≠ cs "say ") && decide ((cs x).take 5 ≠ cs "tell ")) = true) (n : Int) : pR n (x ++ y) = none:=none_of (fun _ _ e=>by
 simp only [Bool.and_eq_true,decide_eq_true_eq] at h
 have l : 5 <= (cs x).length:=by rw [cs_len]; exact h.1.1
 rcases row_cases e with ⟨ws,hw,e⟩ | ⟨sc,ph,bs,ms,ok,e⟩
 ·have z:=congrArg (fun l=>l.take 4) e
  rw [cs_app,List.take_append_of_le_length (by omega)] at z
  exact h.1.2 (by rw [z,show cs ("say " : Str) = [115,97,121,32] by decide +kernel] <;> rfl)
 ·have z:=congrArg (fun l=>l.take 5) e
  rw [cs_app,List.take_append_of_le_length (by omega)] at z
  exact h.2 (by rw [z,show cs ("tell " : Str) = [116,101,108,108,32] by decide +kernel] <;> rfl)) n
section
variable {a b m : Str}
theorem mem_mid (x y : Str) {c : Nat} (h : c ∈ cs x) : c ∈ cs (x ++ y):=by rw [cs_app]; exact List.mem_append_left _ h
theorem mem_end (x y : Str) {c : Nat} (h : c ∈ cs y) : c ∈ cs (x ++ y):=by rw [cs_app]; exact List.mem_append_right _ h
def saysL (a b m : Str) : List Str:=(([""," ","say","say ","say  " ++ a,"say " ++ a ++ " "," say " ++ a,"Say " ++ a,"says " ++ a,"row " ++ a] : List Str) ++ (["say " ++ a ++ "  " ++ b,"say " ++ a ++ ", " ++ b,"say " ++ a ++ ">","say " ++ a ++ ": " ++ b,"say: " ++ a] : List Str)) ++ (["say abcdefghij0123456789k","say " ++ m,"saying","part ","part " ++ a,"Part"] : List Str) ++ (["parts"," part","end ","end " ++ a,"End"," end","ended","part end","tell","tell all","all"] : List Str)
theorem says_odd (ha : Wd a) (hb : Wd b) (hm : Many m) : ∀ x ∈ saysL a b m,OddN x:=by
 have la:=ha.1
 have lb:=hb.1
 have e4 : ("say " : Str).length = 4:=by decide +kernel
 have e5 : ("part " : Str).length = 5:=by decide +kernel
 intro x hx
 unfold saysL at hx
 simp only [List.mem_append,List.mem_cons,List.not_mem_nil,or_false] at hx
 rcases hx with ((((h | h | h | h | h | h | h | h | h | h) | (h | h | h | h | h)) | (h | h | h | h | h | h)) | (h | h | h | h | h | h | h | h | h | h | h)) <;> subst h
 ·exact lit_odd (by decide +kernel) (by decide +kernel)
 ·exact lit_odd (by decide +kernel) (by decide +kernel)
 ·exact lit_odd (by decide +kernel) (by decide +kernel)
 ·exact lit_odd (by decide +kernel) (by decide +kernel)
 ·refine ⟨⟨none_tight ?_,ne_long (by rw [show ("say  " : Str).length = 5 by decide +kernel]; omega)⟩,(Nc.app (Nc.lit (by decide +kernel)) (Nc.w ha)).le (by decide) (by decide)⟩
  rw [cs_app,show cs ("say  " : Str) = [115,97,121] ++ 32 :: 32 :: [] by decide +kernel,List.append_assoc]
  exact not_tight2
 ·refine ⟨⟨none_tight ?_,ne_long (by rw [len_app,e4]; omega)⟩,(Nc.app (Nc.app (Nc.lit (by decide +kernel)) (Nc.w ha)) (Nc.lit (by decide +kernel))).le (by decide) (by decide)⟩
  rw [cs_app,show cs (" " : Str) = [32] by decide +kernel]
  exact not_tightR
 ·exact ⟨⟨none_first (first_app (c:=32) (by decide +kernel)) (by decide) (by decide),ne_long (by rw [show (" say " : Str).length = 5 by decide +kernel]; omega)⟩,(Nc.app (Nc.lit (by decide +kernel)) (Nc.w ha)).le (by decide) (by decide)⟩
 ·exact ⟨⟨none_first (first_app (c:=83) (by decide +kernel)) (by decide) (by decide),ne_long (by rw [show ("Say " : Str).length = 4 by decide +kernel]; omega)⟩,(Nc.app (Nc.lit (by decide +kernel)) (Nc.w ha)).le (by decide) (by decide)⟩
 ·exact ⟨⟨no_take (by decide +kernel),ne_long (by rw [show ("says " : Str).length = 5 by decide +kernel]; omega)⟩,(Nc.app (Nc.lit (by decide +kernel)) (Nc.w ha)).le (by decide) (by decide)⟩
 ·exact ⟨⟨none_first (first_app (c:=114) (by decide +kernel)) (by decide) (by decide),ne_long (by rw [show ("row " : Str).length = 4 by decide +kernel]; omega)⟩,(Nc.app (Nc.lit (by decide +kernel)) (Nc.w ha)).le (by decide) (by decide)⟩
 ·refine ⟨⟨none_tight ?_,ne_long (by rw [len_app,len_app,e4]; omega)⟩,(Nc.app (Nc.app (Nc.app (Nc.lit (by decide +kernel)) (Nc.w ha)) (Nc.lit (by decide +kernel))) (Nc.w hb)).le (by decide) (by decide)⟩
  rw [cs_app,cs_app,show cs ("  " : Str) = 32 :: 32 :: [] by decide +kernel,List.append_assoc]
  exact not_tight2
 ·exact ⟨⟨none_bad (c:=44) (by decide) (by decide) (by decide) (by decide) (mem_mid _ _ (mem_end _ _ (by decide +kernel))),ne_long (by rw [len_app,len_app,e4]; omega)⟩,(Nc.app (Nc.app (Nc.app (Nc.lit (by decide +kernel)) (Nc.w ha)) (Nc.lit (by decide +kernel))) (Nc.w hb)).le (by decide) (by decide)⟩
 ·exact ⟨⟨none_say (c:=62) (first_app (first_app (by decide +kernel))) (by decide) (by decide) (mem_end _ _ (by decide +kernel)),ne_long (by rw [len_app,e4]; omega)⟩,(Nc.app (Nc.app (Nc.lit (by decide +kernel)) (Nc.w ha)) (Nc.lit (by decide +kernel))).le (by decide) (by decide)⟩
 ·exact ⟨⟨none_say (c:=58) (first_app (first_app (first_app (by decide +kernel)))) (by decide) (by decide) (mem_mid _ _ (mem_end _ _ (by decide +kernel))),ne_long (by rw [len_app,len_app,e4]; omega)⟩,(Nc.app (Nc.app (Nc.app (Nc.lit (by decide +kernel)) (Nc.w ha)) (Nc.lit (by decide +kernel))) (Nc.w hb)).le (by decide) (by decide)⟩
 ·exact ⟨⟨no_take (by decide +kernel),ne_long (by rw [show ("say: " : Str).length = 5 by decide +kernel]; omega)⟩,(Nc.app (Nc.lit (by decide +kernel)) (Nc.w ha)).le (by decide) (by decide)⟩
 ·exact lit_odd (by decide +kernel) (by decide +kernel)
 ·refine ⟨⟨fun n=>?_,ne_long (by rw [e4]; obtain ⟨ws,rfl,h1,h2⟩:=hm; match ws,h1,h2 with | x :: y :: r,_,h2=>(rw [<- cs_len,cs_joinM,List.length_append,cs_len]; have:=(h2 x List.mem_cons_self).1; omega))⟩,(Nc.app (Nc.lit (by decide +kernel)) (Nc.many hm)).le (by decide) (by decide)⟩
  unfold pR
  rw [if_pos (starts_app _ _),dropS_app e4,hm.split] <;> rfl
 ·exact lit_odd (by decide +kernel) (by decide +kernel)
 ·exact lit_odd (by decide +kernel) (by decide +kernel)
 ·exact ⟨⟨none_first (first_app (c:=112) (by decide +kernel)) (by decide) (by decide),ne_long (by rw [e5]; omega)⟩,(Nc.app (Nc.lit (by decide +kernel)) (Nc.w ha)).le (by decide) (by decide)⟩
 ·exact lit_odd (by decide +kernel) (by decide +kernel)
 ·exact lit_odd (by decide +kernel) (by decide +kernel)
 ·exact lit_odd (by decide +kernel) (by decide +kernel)
 ·exact lit_odd (by decide +kernel) (by decide +kernel)
 ·exact ⟨⟨none_first (first_app (c:=101) (by decide +kernel)) (by decide) (by decide),ne_long (by rw [show ("end " : Str).length = 4 by decide +kernel]; omega)⟩,(Nc.app (Nc.lit (by decide +kernel)) (Nc.w ha)).le (by decide) (by decide)⟩
 all_goals exact lit_odd (by decide +kernel) (by decide +kernel)
end
end D
namespace D
open PySem L2
def hdBad (h : Str) : Bool:=match Txt.split h " " with
 | sc :: ps=>(match pPB ps with
  | some (ph,bs)=>!(decide (sc ∈ scs) && hasF ph bs)
  | none=>true)
 | []=>true
theorem pTl_bad {h m : Str} (e : hdBad h = true ∨ pW m = none) : pTl [h,m] = none:=by
 unfold pTl
 dsimp only
 unfold hdBad at e
 split
 ·rename_i sc ps hs
  rw [hs] at e
  dsimp only at e
  split
  ·rename_i ph bs ms hp hw
   rw [hp,hw] at e
   dsimp only at e
   rcases e with e | e
   ·rw [Bool.not_eq_true'] at e
    rw [if_neg (fun z=>by rw [decide_eq_true z.1,z.2] at e; cases e)]
   ·cases e
  ·rfl
 ·rfl
theorem tell_none {h m : Str} (h1 : 58 ∉ cs h) (h2 : 58 ∉ cs m) (e : hdBad h = true ∨ pW m = none) (n : Int) : pR n ("tell " ++ (h ++ ": " ++ m)) = none:=by
 unfold pR
 rw [if_neg (by rw [starts_no]; decide),if_pos (starts_app _ _),dropS_app (by decide +kernel)]
 unfold pT
 rw [D.split2 h1 h2,pTl_bad e] <;> rfl
theorem assocT {lit h m : Str} (e : lit = "tell " ++ (h ++ ": ")) : lit ++ m = "tell " ++ (h ++ ": " ++ m):=by
 rw [e]
 exact str_ext (by simp only [cs_app,List.append_assoc])
theorem tl_lit {lit h b : Str} (hb : Wd b) (e : (decide (lit = "tell " ++ (h ++ ": ")) && !(cs h).contains 58 && hdBad h && ncB lit && decide (5 <= lit.length)) = true) : OddN (lit ++ b):=by
 simp only [Bool.and_eq_true,decide_eq_true_eq,Bool.not_eq_true',List.contains_iff_mem] at e
 obtain ⟨⟨⟨⟨e1,e2⟩,e3⟩,e4⟩,e5⟩:=e
 have h58 : 58 ∉ cs h:=fun z=>by rw [List.contains_iff_mem.mpr z] at e2; cases e2
 refine ⟨⟨fun n=>?_,ne_long (by have:=hb.1; omega)⟩,(Nc.app (Nc.lit e4) (Nc.w hb)).le (by decide) (by decide)⟩
 rw [assocT e1]
 exact tell_none h58 (good_free hb.2.2 (by decide)) (.inl e3) n
theorem wd2 {sc a : Str} (hs : Wd sc) (ha : Wd a) (h : sc ∉ scs) : hdBad (sc ++ " " ++ a) = true:=by
 unfold hdBad
 have e : Txt.split (sc ++ " " ++ a) " " = [sc,a]:=split_join (c:=32) (ys:=[sc,a]) (by simp) fun y hy=>by
  simp only [List.mem_cons,List.not_mem_nil,or_false] at hy
  rcases hy with rfl | rfl
  ·exact good_free hs.2.2 (by decide)
  ·exact good_free ha.2.2 (by decide)
 rw [e]
 dsimp only
 split
 ·rw [decide_eq_false h] <;> rfl
 ·rfl
def tellsL (a b m : Str) : List Str:=(((((((["tell all " ++ a,"tell all " ++ a ++ ":","tell all " ++ a ++ ": ","tell all " ++ a ++ ":" ++ b,"tell all: " ++ b] : List Str) ++ (["tell all >s: " ++ a,"tell any " ++ a ++ ": " ++ b,"tell All " ++ a ++ ": " ++ b,"tell  all w: " ++ b] : List Str)) ++
 (["tell all  w: " ++ b,"tell all w : " ++ b,"tell all a b c d e: " ++ b,"tell all w >s >s: " ++ b] : List Str)) ++ (["tell all w >: " ++ b,"tell all w w>: " ++ b,"tell all w v>s: " ++ b,"tell all wv ww>: " ++ b] : List Str)) ++
 (["tell all w >1 >2 >3 >4 >5 >6: " ++ b,"tell all w >1 v: " ++ b,"tell all w >1>2: " ++ b,"tell w: " ++ b] : List Str)) ++ (["tell w all: " ++ b,"tell all here w >s all: " ++ b,"tell here: " ++ b,"tell w part >s: " ++ b] : List Str)) ++
 (["tell all w >s : " ++ b,"tell all w: " ++ a ++ " : " ++ b,"tell all w: " ++ m] : List Str)) ++ (["tell all w >abcdefghij0123456789: " ++ b,"tell all abcdefghij0123456789k: " ++ b,"Tell all w: " ++ b] : List Str) ++ (["tell all w:  " ++ b,"tell all w: " ++ b ++ " ","tell all w >s w>ws: " ++ b,"tell all w s: > " ++ b] : List Str)
theorem tells_odd {a b m : Str} (ha : Wd a) (hb : Wd b) (hm : Many m) : ∀ x ∈ tellsL a b m,OddN x:=by
 have la:=ha.1
 have lb:=hb.1
 have a58 : 58 ∉ cs a:=good_free ha.2.2 (by decide)
 have b58 : 58 ∉ cs b:=good_free hb.2.2 (by decide)
 have e9 : ("tell all " : Str).length = 9:=by decide +kernel
 have c9 : 58 ∉ cs ("tell all " : Str):=by decide +kernel
 have ec : cs (":" : Str) = [58]:=by decide +kernel
 have ca : 58 ∉ cs ("tell all " ++ a):=fun z=>by
  rw [cs_app] at z
  rcases List.mem_append.mp z with z | z
  ·exact c9 z
  ·exact a58 z
 intro x hx
 unfold tellsL at hx
 simp only [List.mem_append,List.mem_cons,List.not_mem_nil,or_false] at hx
 rcases hx with ((((((((h | h | h | h | h) | (h | h | h | h)) | (h | h | h | h)) | (h | h | h | h)) | (h | h | h | h)) | (h | h | h | h)) | (h | h | h)) | (h | h | h)) | (h | h | h | h) <;> subst h
 ·exact ⟨⟨none_nocolon (first_app (by decide +kernel)) ca,ne_long (by omega)⟩,(Nc.app (Nc.lit (by decide +kernel)) (Nc.w ha)).le (by decide) (by decide)⟩
 ·exact ⟨⟨none_colon (first_app (first_app (by decide +kernel))) (by rw [cs_app,ec]) ca (fun v z=>by cases z),ne_long (by rw [len_app]; omega)⟩,(Nc.app (Nc.app (Nc.lit (by decide +kernel)) (Nc.w ha)) (Nc.lit (by decide +kernel))).le (by decide) (by decide)⟩
 ·refine ⟨⟨none_tight ?_,ne_long (by rw [len_app]; omega)⟩,(Nc.app (Nc.app (Nc.lit (by decide +kernel)) (Nc.w ha)) (Nc.lit (by decide +kernel))).le (by decide) (by decide)⟩
  rw [cs_app,show cs (": " : Str) = [58] ++ [32] by decide +kernel,<- List.append_assoc]
  exact not_tightR
 ·refine ⟨⟨none_colon (u:=cs ("tell all " ++ a)) (v:=cs b) (first_app (first_app (first_app (by decide +kernel)))) (by rw [cs_app,cs_app,ec,List.append_assoc] <;> rfl) ca (fun v z=>absurd (show 32 ∈ cs b by rw [z]; exact List.mem_cons_self) (good_free hb.2.2 (by decide))),ne_long (by rw [len_app,len_app]; omega)⟩,(Nc.app (Nc.app (Nc.app (Nc.lit (by decide +kernel)) (Nc.w ha)) (Nc.lit (by decide +kernel))) (Nc.w hb)).le (by decide) (by decide)⟩
 ·exact tl_lit (h:="all") hb (by decide +kernel)
 ·exact tl_lit (h:="all >s") ha (by decide +kernel)
 ·refine ⟨⟨fun n=>?_,ne_long (by rw [len_app,len_app,show ("tell any " : Str).length = 9 by decide +kernel]; omega)⟩,(Nc.app (Nc.app (Nc.app (Nc.lit (by decide +kernel)) (Nc.w ha)) (Nc.lit (by decide +kernel))) (Nc.w hb)).le (by decide) (by decide)⟩
  have e : "tell any " ++ a ++ ": " ++ b = "tell " ++ ("any" ++ " " ++ a ++ ": " ++ b):=str_ext (by
   simp only [cs_app,List.append_assoc]
   rw [show cs ("tell any " : Str) = cs ("tell " : Str) ++ (cs ("any" : Str) ++ cs (" " : Str)) by decide +kernel]
   simp only [List.append_assoc])
  rw [e]
  refine tell_none (fun z=>?_) b58 (.inl (wd2 (by unfold Wd allGood; decide +kernel) ha (by decide +kernel))) n
  rw [cs_app,cs_app] at z
  rcases List.mem_append.mp z with z | z
  ·exact absurd z (by decide +kernel)
  ·exact a58 z
 ·refine ⟨⟨fun n=>?_,ne_long (by rw [len_app,len_app,show ("tell All " : Str).length = 9 by decide +kernel]; omega)⟩,(Nc.app (Nc.app (Nc.app (Nc.lit (by decide +kernel)) (Nc.w ha)) (Nc.lit (by decide +kernel))) (Nc.w hb)).le (by decide) (by decide)⟩
  have e : "tell All " ++ a ++ ": " ++ b = "tell " ++ ("All" ++ " " ++ a ++ ": " ++ b):=str_ext (by
   simp only [cs_app,List.append_assoc]
   rw [show cs ("tell All " : Str) = cs ("tell " : Str) ++ (cs ("All" : Str) ++ cs (" " : Str)) by decide +kernel]
   simp only [List.append_assoc])
  rw [e]
  refine tell_none (fun z=>?_) b58 (.inl (wd2 (by unfold Wd allGood; decide +kernel) ha (by decide +kernel))) n
  rw [cs_app,cs_app] at z
  rcases List.mem_append.mp z with z | z
  ·exact absurd z (by decide +kernel)
  ·exact a58 z
 ·exact tl_lit (h:=" all w") hb (by decide +kernel)
 ·exact tl_lit (h:="all  w") hb (by decide +kernel)
 ·exact tl_lit (h:="all w ") hb (by decide +kernel)
 ·exact tl_lit (h:="all a b c d e") hb (by decide +kernel)
 ·exact tl_lit (h:="all w >s >s") hb (by decide +kernel)
 ·exact tl_lit (h:="all w >") hb (by decide +kernel)
 ·exact tl_lit (h:="all w w>") hb (by decide +kernel)
 ·exact tl_lit (h:="all w v>s") hb (by decide +kernel)
 ·exact tl_lit (h:="all wv ww>") hb (by decide +kernel)
 ·exact tl_lit (h:="all w >1 >2 >3 >4 >5 >6") hb (by decide +kernel)
 ·exact tl_lit (h:="all w >1 v") hb (by decide +kernel)
 ·exact tl_lit (h:="all w >1>2") hb (by decide +kernel)
 ·exact tl_lit (h:="w") hb (by decide +kernel)
 ·exact tl_lit (h:="w all") hb (by decide +kernel)
 ·exact tl_lit (h:="all here w >s all") hb (by decide +kernel)
 ·exact tl_lit (h:="here") hb (by decide +kernel)
 ·exact tl_lit (h:="w part >s") hb (by decide +kernel)
 ·exact tl_lit (h:="all w >s ") hb (by decide +kernel)
 ·refine ⟨⟨none_colon (u:=cs ("tell all w" : Str)) (v:=32 :: (cs a ++ (cs (" : " : Str) ++ cs b))) (first_app (first_app (first_app (by decide +kernel)))) ?_ (by decide +kernel) (fun v z=>?_),ne_long (by rw [len_app,len_app,show ("tell all w: " : Str).length = 12 by decide +kernel]; omega)⟩,(Nc.app (Nc.app (Nc.app (Nc.lit (by decide +kernel)) (Nc.w ha)) (Nc.lit (by decide +kernel))) (Nc.w hb)).le (by decide) (by decide)⟩
  ·rw [cs_app,cs_app,cs_app,show cs ("tell all w: " : Str) = cs ("tell all w" : Str) ++ [58,32] by decide +kernel]
   simp only [List.append_assoc,List.cons_append,List.nil_append]
  ·rw [<- (List.cons.inj z).2]
   exact List.mem_append_right _ (List.mem_append_left _ (by decide +kernel))
 ·refine ⟨⟨fun n=>?_,ne_long (by rw [show ("tell all w: " : Str).length = 12 by decide +kernel]; omega)⟩,(Nc.app (Nc.lit (by decide +kernel)) (Nc.many hm)).le (by decide) (by decide)⟩
  rw [assocT (h:="all w") (by decide +kernel)]
  exact tell_none (by decide +kernel) (hm.no (by decide) (by decide)) (.inr hm.split) n
 ·exact tl_lit (h:="all w >abcdefghij0123456789") hb (by decide +kernel)
 ·exact tl_lit (h:="all abcdefghij0123456789k") hb (by decide +kernel)
 ·exact ⟨⟨none_first (first_app (c:=84) (by decide +kernel)) (by decide) (by decide),ne_long (by rw [show ("Tell all w: " : Str).length = 12 by decide +kernel]; omega)⟩,(Nc.app (Nc.lit (by decide +kernel)) (Nc.w hb)).le (by decide) (by decide)⟩
 ·refine ⟨⟨none_tight ?_,ne_long (by rw [show ("tell all w:  " : Str).length = 13 by decide +kernel]; omega)⟩,(Nc.app (Nc.lit (by decide +kernel)) (Nc.w hb)).le (by decide) (by decide)⟩
  rw [cs_app,show cs ("tell all w:  " : Str) = cs ("tell all w:" : Str) ++ 32 :: 32 :: [] by decide +kernel,List.append_assoc]
  exact not_tight2
 ·refine ⟨⟨none_tight ?_,ne_long (by rw [len_app,show ("tell all w: " : Str).length = 12 by decide +kernel]; omega)⟩,(Nc.app (Nc.app (Nc.lit (by decide +kernel)) (Nc.w hb)) (Nc.lit (by decide +kernel))).le (by decide) (by decide)⟩
  rw [cs_app,show cs (" " : Str) = [32] by decide +kernel]
  exact not_tightR
 ·exact tl_lit (h:="all w >s w>ws") hb (by decide +kernel)
 ·refine ⟨⟨fun n=>?_,ne_long (by rw [show ("tell all w s: > " : Str).length = 16 by decide +kernel]; omega)⟩,(Nc.app (Nc.lit (by decide +kernel)) (Nc.w hb)).le (by decide) (by decide)⟩
  have e : "tell all w s: > " ++ b = "tell " ++ ("all w s" ++ ": " ++ ("> " ++ b)):=str_ext (by
   simp only [cs_app,List.append_assoc]
   rw [show cs ("tell all w s: > " : Str) = cs ("tell " : Str) ++ (cs ("all w s" : Str) ++ (cs (": " : Str) ++ cs ("> " : Str))) by decide +kernel]
   simp only [List.append_assoc])
  rw [e]
  refine tell_none (by decide +kernel) (fun z=>?_) (.inr ?_) n
  ·rw [cs_app] at z
   rcases List.mem_append.mp z with z | z
   ·exact absurd z (by decide +kernel)
   ·exact b58 z
  ·cases e : pW ("> " ++ b) with
   | none=>rfl
   | some ws =>
    obtain ⟨w1,w2⟩:=pW_inv e
    have : 62 ∈ cs (Str.join " " ws):=by rw [<- w1]; exact mem_mid _ _ (by decide +kernel)
    exact absurd this (w2.free (by decide) (by decide))
end D
namespace D
open PySem L2
inductive GoodL : Str × Str -> Prop where
 | line (t : Th) (h : TOk t) (hn : ¬ ∃ n i,t = .part n i) : GoodL ("line",lineOf t)
 | part : GoodL ("part","part")
 | done : GoodL ("end","end")
 | odd (x : Str) (h : OddRow x) : GoodL ("odd",x)
theorem push_len {t : Th} : ∀ {st : Sk},(push t st).length = st.length
 | []=>rfl
 | _ :: _=>rfl
theorem shut_len : ∀ {st : Sk},2 <= st.length -> (shut st).length = st.length - 1
 | [],h=>absurd h (by decide)
 | [_],h=>absurd h (by show ¬ 2 <= 1; decide)
 | _ :: _ :: _,_=>rfl
theorem due_rd : ∀ {L : List (Str × Str)},(∀ l ∈ L,GoodL l) -> ∀ {i k : Nat} {st : Sk},1 <= st.length -> st.length <= 9 -> toldP (rd (L.map Prod.snd) i k st) = dueG L i (st.length - 1)
 | [],_,i,k,st,h1,h9=>by
  show toldP (rd [] i k st) = dueG [] i (st.length - 1)
  unfold dueG
  match st,h1 with
  | [(n,ts)],_=>rfl
  | _ :: _ :: _,_=>rfl
 | (kd,x) :: r,hg,i,k,st,h1,h9=>by
  have hr : ∀ l ∈ r,GoodL l:=fun l hl=>hg l (List.mem_cons_of_mem _ hl)
  have hx:=hg (kd,x) List.mem_cons_self
  show toldP (rd (x :: r.map Prod.snd) i k st) = _
  cases hx with
  | line t h hn =>
   obtain ⟨a,b⟩:=line_ne h hn
   rw [rd_some a b (pR_line h hn _),dueG_on (fun z=>z.elim (fun z=>absurd z (by decide +kernel)) fun z=>absurd z.1 (by decide +kernel)) (fun z=>absurd z.1 (by decide +kernel)),due_rd hr (by rw [push_len]; exact h1) (by rw [push_len]; exact h9),push_len,if_neg (by decide +kernel),if_neg (by decide +kernel)] <;> rfl
  | part =>
   by_cases h8 : 8 < st.length
   ·rw [rd_part1 h8,dueG_deep (fun z=>z.elim (fun z=>absurd z (by decide +kernel)) fun z=>absurd z.1 (by decide +kernel)) ⟨rfl,by omega⟩] <;> rfl
   ·rw [rd_part2 h8,dueG_on (fun z=>z.elim (fun z=>absurd z (by decide +kernel)) fun z=>absurd z.1 (by decide +kernel)) (fun z=>by omega),due_rd hr (by show 1 <= st.length + 1; omega) (by show st.length + 1 <= 9; omega),if_pos rfl,if_neg pe_ne]
    show dueG r (i + 1) (st.length + 1 - 1) = _
    rw [show st.length + 1 - 1 = st.length - 1 + 1 - 0 by omega]
  | done =>
   by_cases h0 : st.length = 1
   ·rw [rd_end1 h0,dueG_row (.inr ⟨rfl,by omega⟩)] <;> rfl
   ·have h2 : 2 <= st.length:=by omega
    rw [rd_end2 h0,dueG_on (fun z=>z.elim (fun z=>absurd z (by decide +kernel)) fun z=>by omega) (fun z=>absurd z.1 (by decide +kernel)),due_rd hr (by rw [shut_len h2]; omega) (by rw [shut_len h2]; omega),shut_len h2,if_neg (by decide +kernel),if_pos rfl] <;> rfl
  | odd _ h =>
   rw [rd_none h.2.2 h.2.1 (h.1 _),dueG_row (.inl rfl)] <;> rfl
theorem line_pos {t : Th} (h : TOk t) (hn : ¬ ∃ n i,t = .part n i) : lineOf t ≠ "":=fun z=>by
 have:=(line_in h hn).2
 rw [z] at this
 exact absurd this (by decide +kernel)
theorem cut_good {L : List (Str × Str)} (hg : ∀ l ∈ L,GoodL l) (h : ¬ (L = [] ∨ L = ([("odd","")] : List (Str × Str)))) : cutR (L.map Prod.snd) = L.map Prod.snd:=by
 unfold cutR
 rw [if_neg]
 intro z
 match L,hg,h,z with
 | [(k,x)],hg,h,z =>
  have hx : x = "":=(List.cons.inj z).1
  have:=hg (k,x) List.mem_cons_self
  cases this with
  | line t a b=>exact line_pos a b hx
  | part=>exact absurd hx (by decide +kernel)
  | done=>exact absurd hx (by decide +kernel)
  | odd _ _=>rw [hx] at h; exact h (.inr rfl)
theorem due_told {L : List (Str × Str)} (hg : ∀ l ∈ L,GoodL l) : toldP (rd (cutR (L.map Prod.snd)) 0 0 [(0,[])]) = dueL L:=by
 unfold dueL
 by_cases h : L = [] ∨ L = ([("odd","")] : List (Str × Str))
 ·rw [if_pos h]
  have e : cutR (L.map Prod.snd) = []:=by
   rcases h with rfl | rfl
   ·unfold cutR; rw [if_neg (by simp)]; rfl
   ·unfold cutR; rw [if_pos (show ([("odd","")] : List (Str × Str)).map Prod.snd = ([""] : List Str) from rfl)]
  rw [e] <;> rfl
 ·rw [if_neg h,cut_good hg h,due_rd hg (by decide) (by show 1 <= 9; decide)] <;> rfl
def lns : Sk -> List Str
 | []=>[]
 | [(_,ts)]=>ts.flatMap linesT
 | (_,ts) :: x :: r=>lns (x :: r) ++ ("part" : Str) :: ts.flatMap linesT
theorem linesT_leaf {t : Th} (h : ¬ ∃ n i,t = .part n i) : linesT t = [lineOf t]:=by
 cases t with
 | part n i=>exact absurd ⟨n,i,rfl⟩ h
 | say n ws=>rfl
 | tell n sc ph bs ms=>rfl
theorem lns_push {t : Th} (h : ¬ ∃ n i,t = .part n i) : ∀ {st : Sk},1 <= st.length -> lns (push t st) = lns st ++ [lineOf t]
 | [(n,ts)],_=>by
  show (ts ++ [t]).flatMap linesT = ts.flatMap linesT ++ [lineOf t]
  rw [List.flatMap_append,List.flatMap_singleton,linesT_leaf h]
 | (n,ts) :: x :: r,_=>by
  show lns (x :: r) ++ ("part" : Str) :: (ts ++ [t]).flatMap linesT = (lns (x :: r) ++ ("part" : Str) :: ts.flatMap linesT) ++ [lineOf t]
  rw [List.flatMap_append,List.flatMap_singleton,linesT_leaf h]
  simp
theorem lns_open {n : Int} : ∀ {st : Sk},1 <= st.length -> lns ((n,[]) :: st) = lns st ++ [("part" : Str)]
 | x :: r,_=>rfl
theorem flat_shut (us ts : List Th) (n : Int) : (us ++ [Th.part n (F.of ts)]).flatMap linesT = us.flatMap linesT ++ (("part" : Str) :: (ts.flatMap linesT ++ [("end" : Str)])):=by
 rw [List.flatMap_append,List.flatMap_singleton]
 show _ ++ (("part" : Str) :: (linesF (F.of ts) ++ [("end" : Str)])) = _
 rw [lines_flatT,ths_of]
theorem lns_shut : ∀ {st : Sk},2 <= st.length -> lns (shut st) = lns st ++ [("end" : Str)]
 | [],h=>absurd h (by decide)
 | [_],h=>absurd h (by show ¬ 2 <= 1; decide)
 | [(n,ts),(m,us)],_=>by
  show (us ++ [Th.part n (F.of ts)]).flatMap linesT = (us.flatMap linesT ++ ("part" : Str) :: ts.flatMap linesT) ++ [("end" : Str)]
  rw [flat_shut]
  simp
 | (n,ts) :: (m,us) :: x :: r,_=>by
  show lns (x :: r) ++ ("part" : Str) :: (us ++ [Th.part n (F.of ts)]).flatMap linesT = ((lns (x :: r) ++ ("part" : Str) :: us.flatMap linesT) ++ ("part" : Str) :: ts.flatMap linesT) ++ [("end" : Str)]
  rw [flat_shut]
  simp
structure SkOk (st : Sk) (k : Nat) : Prop where
 ok : ∀ x ∈ st,∀ t ∈ x.2.flatMap Th.ord,TOk t
 dep : ∀ (j : Nat) x,st.reverse[j]? = some x -> (F.of x.2).dep + j <= 8
 cnt : (st.map fun x=>(x.2.flatMap Th.ord).length).sum + (st.length - 1) <= k
theorem rev_last {α : Type} {l : List α} {x : α} {j : Nat} {y : α} (h : (x :: l).reverse[j]? = some y) : (j = l.length /\ y = x) ∨ l.reverse[j]? = some y:=by
 rw [List.reverse_cons] at h
 by_cases z : j < l.reverse.length
 ·rw [List.getElem?_append_left z] at h
  exact .inr h
 ·rw [List.getElem?_append_right (by omega)] at h
  have hj:=(List.getElem?_eq_some_iff.mp h).1
  rw [List.length_reverse] at hj z h
  rw [List.length_singleton] at hj
  have e : j - l.length = 0:=by omega
  rw [e] at h
  exact .inl ⟨by omega,by simpa using h.symm⟩
theorem rev_in {α : Type} {l : List α} {x : α} {j : Nat} {y : α} (h : l.reverse[j]? = some y) : (x :: l).reverse[j]? = some y:=by
 rw [List.reverse_cons,List.getElem?_append_left (List.getElem?_eq_some_iff.mp h).1]
 exact h
theorem rev_at {α : Type} {l : List α} {x : α} : (x :: l).reverse[l.length]? = some x:=by
 rw [List.reverse_cons,List.getElem?_append_right (by rw [List.length_reverse]; exact Nat.le_refl _),List.length_reverse,Nat.sub_self] <;> rfl
theorem SkOk.push {st : Sk} {k : Nat} {t : Th} (h : SkOk st k) (h1 : 1 <= st.length) (ht : TOk t) (hn : ¬ ∃ n i,t = .part n i) : SkOk (D.push t st) (k + 1):=by
 have eo : t.ord = [t] /\ (F.of [t]).dep = 0:=by
  cases t with
  | part n i=>exact absurd ⟨n,i,rfl⟩ hn
  | say n ws=>exact ⟨rfl,rfl⟩
  | tell n sc ph bs ms=>exact ⟨rfl,rfl⟩
 match st,h1,h with
 | (n,ts) :: r,_,h =>
  refine ⟨fun x hx s hs=>?_,fun j x hj=>?_,?_⟩
  ·rcases List.mem_cons.mp hx with z | z
   ·rw [z] at hs
    have hs : s ∈ (ts ++ [t]).flatMap Th.ord:=hs
    rw [List.flatMap_append,List.flatMap_singleton,eo.1] at hs
    rcases List.mem_append.mp hs with y | y
    ·exact h.ok (n,ts) List.mem_cons_self s y
    ·rw [List.mem_singleton.mp y]; exact ht
   ·exact h.ok x (List.mem_cons_of_mem _ z) s hs
  ·rcases rev_last hj with ⟨e,z⟩ | z
   ·rw [z,e]
    have:=h.dep r.length (n,ts) rev_at
    show (F.of (ts ++ [t])).dep + _ <= 8
    rw [dep_app,eo.2]
    have : (F.of ts).dep + r.length <= 8:=this
    omega
   ·exact h.dep j x (rev_in z)
  ·have c:=h.cnt
   show ((ts ++ [t]).flatMap Th.ord).length + (r.map fun x=>(x.2.flatMap Th.ord).length).sum + (r.length + 1 - 1) <= k + 1
   have c : (ts.flatMap Th.ord).length + (r.map fun x=>(x.2.flatMap Th.ord).length).sum + (r.length + 1 - 1) <= k:=by simpa using c
   rw [List.flatMap_append,List.flatMap_singleton,eo.1,List.length_append,List.length_singleton]
   omega
theorem SkOk.opn {st : Sk} {k : Nat} {n : Int} (h : SkOk st k) (h1 : 1 <= st.length) (h8 : ¬ 8 < st.length) : SkOk ((n,[]) :: st) (k + 1):=by
 refine ⟨fun x hx s hs=>?_,fun j x hj=>?_,?_⟩
 ·rcases List.mem_cons.mp hx with z | z
  ·rw [z] at hs; exact nomatch hs
  ·exact h.ok x z s hs
 ·rcases rev_last hj with ⟨e,z⟩ | z
  ·rw [z,e]
   show 0 + st.length <= 8
   omega
  ·exact h.dep j x z
 ·have c:=h.cnt
  show 0 + (st.map fun x=>(x.2.flatMap Th.ord).length).sum + (st.length + 1 - 1) <= k + 1
  omega
theorem SkOk.shut {st : Sk} {k : Nat} (h : SkOk st k) (h2 : 2 <= st.length) : SkOk (D.shut st) k:=by
 match st,h2,h with
 | (n,ts) :: (m,us) :: r,_,h =>
  have eo : (Th.part n (F.of ts)).ord = .part n (F.of ts) :: ts.flatMap Th.ord:=by
   show Th.part n (F.of ts) :: (F.of ts).ord = _
   rw [ord_flat,ths_of]
  refine ⟨fun x hx s hs=>?_,fun j x hj=>?_,?_⟩
  ·rcases List.mem_cons.mp hx with z | z
   ·rw [z] at hs
    have hs : s ∈ (us ++ [Th.part n (F.of ts)]).flatMap Th.ord:=hs
    rw [List.flatMap_append,List.flatMap_singleton,eo] at hs
    rcases List.mem_append.mp hs with y | y
    ·exact h.ok (m,us) (by simp) s y
    ·rcases List.mem_cons.mp y with y | y
     ·rw [y]; trivial
     ·exact h.ok (n,ts) List.mem_cons_self s y
   ·exact h.ok x (List.mem_cons_of_mem _ (List.mem_cons_of_mem _ z)) s hs
  ·rcases rev_last hj with ⟨e,z⟩ | z
   ·rw [z,e]
    have a:=h.dep r.length (m,us) (rev_in rev_at)
    have b:=h.dep (r.length + 1) (n,ts) rev_at
    show (F.of (us ++ [Th.part n (F.of ts)])).dep + _ <= 8
    rw [dep_app]
    have e2 : (F.of [Th.part n (F.of ts)]).dep = (F.of ts).dep + 1:=by
     show max ((F.of ts).dep + 1) 0 = _
     omega
    rw [e2]
    have a : (F.of us).dep + r.length <= 8:=a
    have b : (F.of ts).dep + (r.length + 1) <= 8:=b
    omega
   ·exact h.dep j x (rev_in (rev_in z))
  ·have c:=h.cnt
   have c : (ts.flatMap Th.ord).length + ((us.flatMap Th.ord).length + (r.map fun x=>(x.2.flatMap Th.ord).length).sum) + (r.length + 1 + 1 - 1) <= k:=by simpa using c
   show ((us ++ [Th.part n (F.of ts)]).flatMap Th.ord).length + (r.map fun x=>(x.2.flatMap Th.ord).length).sum + (r.length + 1 - 1) <= k
   rw [List.flatMap_append,List.flatMap_singleton,eo,List.length_append,List.length_cons]
   omega
theorem rd_fin : ∀ {xs : List Str} {i k : Nat} {st : Sk} {ts : List Th},1 <= st.length -> SkOk st k -> rd xs i k st = .fin ts -> ts.flatMap linesT = lns st ++ xs /\ SkOk [(0,ts)] (k + xs.length)
 | [],i,k,st,ts,h1,hk,h=>by
  match st,h1,hk,h with
  | [(n,us)],_,hk,h =>
   have h : Out.fin us = .fin ts:=h
   injection h with h
   subst h
   refine ⟨by show _ = us.flatMap linesT ++ []; rw [List.append_nil],⟨fun x hx=>?_,fun j x hj=>?_,hk.cnt⟩⟩
   ·rw [List.mem_singleton.mp hx]; exact hk.ok (n,us) List.mem_cons_self
   ·have hx : x = (0,us):=by
     have:=List.mem_of_getElem? hj
     simpa using this
    have hj0 : j = 0:=by
     have:=(List.getElem?_eq_some_iff.mp hj).1
     simp at this
     omega
    rw [hx,hj0]
    exact hk.dep 0 (n,us) rfl
  | _ :: _ :: _,_,_,h=>cases h
 | x :: r,i,k,st,ts,h1,hk,h=>by
  by_cases ex : x = "end"
  ·subst ex
   by_cases h0 : st.length = 1
   ·rw [rd_end1 h0] at h; cases h
   ·have h2 : 2 <= st.length:=by omega
    rw [rd_end2 h0] at h
    obtain ⟨a,b⟩:=rd_fin (by rw [shut_len h2]; omega) (hk.shut h2) h
    refine ⟨by rw [a,lns_shut h2,List.append_assoc] <;> rfl,b.ok,b.dep,Nat.le_trans b.cnt (by rw [List.length_cons]; omega)⟩
  ·by_cases ep : x = "part"
   ·subst ep
    by_cases h8 : 8 < st.length
    ·rw [rd_part1 h8] at h; cases h
    ·rw [rd_part2 h8] at h
     obtain ⟨a,b⟩:=rd_fin (by show 1 <= st.length + 1; omega) (hk.opn h1 h8) h
     refine ⟨by rw [a,lns_open h1,List.append_assoc] <;> rfl,b.ok,b.dep,Nat.le_trans b.cnt (by rw [List.length_cons]; omega)⟩
   ·cases e : pR ((k + 1 : Nat) : Int) x with
    | none=>rw [rd_none ex ep e] at h; cases h
    | some t =>
     rw [rd_some ex ep e] at h
     obtain ⟨e1,e2,e3,_⟩:=pR_inv e
     obtain ⟨a,b⟩:=rd_fin (by rw [push_len]; exact h1) (hk.push h1 e2 e3) h
     refine ⟨by rw [a,lns_push e3 h1,List.append_assoc,e1] <;> rfl,b.ok,b.dep,Nat.le_trans b.cnt (by rw [List.length_cons]; omega)⟩
theorem read_written {xs : List Str} {ts : List Th} (hl : xs.length <= 200) (h : rd xs 0 0 [(0,[])] = .fin ts) : WrOk (F.of ts) /\ linesF (F.of ts) = xs:=by
 have hk : SkOk [(0,[])] 0:=by
  refine ⟨fun x hx t ht=>?_,fun j x hj=>?_,by decide⟩
  ·rw [List.mem_singleton.mp hx] at ht
   cases ht
  ·have hx : x = (0,[]):=by
    have:=List.mem_of_getElem? hj
    simpa using this
   have hj0 : j = 0:=by
    have:=(List.getElem?_eq_some_iff.mp hj).1
    simp at this
    omega
   rw [hx,hj0]
   decide
 obtain ⟨a,b⟩:=rd_fin (by decide) hk h
 refine ⟨⟨?_,?_,fun t ht=>?_⟩,?_⟩
 ·have:=b.dep 0 (0,ts) rfl
  have : (F.of ts).dep + 0 <= 8:=this
  omega
 ·have c:=b.cnt
  have c : (ts.flatMap Th.ord).length + 0 + (1 - 1) <= 0 + xs.length:=by simpa using c
  rw [ord_flat,ths_of]
  omega
 ·rw [ord_flat,ths_of] at ht
  exact b.ok (0,ts) List.mem_cons_self t ht
 ·rw [lines_flatT,ths_of,a] <;> rfl
end D
namespace D
open PySem L2
structure LOk (L : List (Str × Str)) : Prop where
 good : ∀ l ∈ L,GoodL l /\ Nc l.2 6000 20
 len : L.length <= 190
def spRight : Sp:=fun vs H Q _=>∃ (a : Addr) (xs : List V) (L : List (Str × Str)),vs = [.ref a] /\ H a = some (.lst xs) /\ prsR H L xs /\ LOk L /\ ∀ H',Same H H' -> Q (.bl true) H'
theorem Nc.tx {x : Str} (h : Nc x 6000 20) : 10 ∉ cs x /\ Tx x:=⟨fun z=>(h.ok 10 z).2 rfl,Nat.le_trans h.len (by decide),fun c hc=>(h.ok c hc).1⟩
theorem LOk.join {L : List (Str × Str)} (h : LOk L) : ((L.map Prod.snd).map (·.length)).sum + (L.map Prod.snd).length * ("\n" : Str).length <= 16777216 /\ (Str.join "\n" (L.map Prod.snd)).length + 2 <= sizeLine:=by
 have hl:=h.len
 have e1 : ("\n" : Str).length = 1:=by decide +kernel
 have hm : ∀ y ∈ L.map Prod.snd,y.length <= 6000:=fun y hy=>by
  obtain ⟨l,hl,rfl⟩:=List.mem_map.mp hy
  exact (h.good l hl).2.len
 have a:=sum_len (m:=6000) (ys:=L.map Prod.snd) hm
 have b:=join_len (z:="\n") (m:=6000) (by rw [e1]; exact Nat.le_refl _) (ys:=L.map Prod.snd) hm
 have hz : 2000000 <= sizeLine:=by decide
 rw [List.length_map] at a b
 rw [e1,List.length_map]
 have c : 6000 * L.length <= 6000 * 190:=Nat.mul_le_mul_left _ hl
 have d : (6000 + 1) * L.length <= (6000 + 1) * 190:=Nat.mul_le_mul_left _ hl
 constructor <;> omega
theorem join_cut (ls : List Str) : Str.join "\n" (cutR ls) = Str.join "\n" ls:=by
 unfold cutR
 split
 ·rename_i e
  rw [e]
  decide +kernel
 ·rfl
theorem noY {P : Program} {w : World} (l : List Env) (H : Hp) (s : Shared) (ev : Value) (s' : Shared) : ¬ CXY P w l H s E0 ev s':=fun ⟨_,_,_,_,_,_,_,z⟩=>z
structure Ty (K : PySem.W.Frag) (mg : Str -> Option Value) : Prop where
 isi : mg "isinstance" = none
 mb : mg "bool" = none
 mi : mg "int" = none
 kb : PySem.W.kitOne K (.type "int") (.type "bool") = some false
 ki : PySem.W.kitOne K (.type "int") (.type "int") = some true
section
variable {P : Program} {w : World} {K : PySem.W.Frag} {mg : Str -> Option Value} {base : Heap} {f : Addr} {fd : FuncData} {CR CD CE : Addr}
abbrev NRi : List Str:=["_law_lines_here","_law_text","_law_told_here"]
theorem scRight : FnScope NRi ["_law_lines_here"] (defScope s_l_right):=⟨rfl,rfl,rfl,by decide +kernel,rfl,by decide +kernel,by decide +kernel⟩
set_option maxHeartbeats 8000000 in
theorem ok_right (F : Fun K "_law_right" "_law_right" s_l_right f fd) (T : Ty K mg) (GT : Def P w K mg base CX0 8 "_law_told" ["_law_text"] spTold) (GD : Def P w K mg base CX0 1 "_law_due" ["_law_lines_here"] spDue) (GR : Def P w K mg base (CXY P w) 7 "read" ["text"] (spReadW CR CD CE)) (GW : Def P w K mg base CX0 14 "written" ["doc"] spWritten) : FnOk P w K mg base CX0 15 f fd ["_law_lines_here"] spRight:=by
 refine F.ok scRight (fun vs H Q E h=>?_) (fun cdv A outer s H vs Q E hr h=>?_)
 ·obtain ⟨a,xs,L,rfl,_⟩:=h
  rfl
 obtain ⟨a,xs,L,rfl,ha,hL,hok,q⟩:=h
 have hu : (A.deeper (PyProof.Rows.envOfC "_law_right" (defScope s_l_right) s.heap.objs.size f cdv)).units < cLine:=hr.units0
 refine ⟨_,pss_cons (ps_set (i:=1) scRight.nd rfl (Or.inl rfl) (pe_bm PySem.F.plainAttrs_str PySem.F.slot_str_join PySem.F.type_str_join mt_join pe_str (pa_cons (pe_comp NRi (defScope s_l_right) rfl (by decide +kernel) (by decide +kernel) (pi_list (pv 0)) (fun _ _ _ _ _=>pts_nil) (fun _ _ _ _ _=>pe_ix (r:=rIxT K) ix_tup (pv 3) pe_int (fun _ _=>rfl))) pa_nil)))
  (pss_cons (ps_set (i:=2) scRight.nd rfl (Or.inl rfl) (pe_def GT (hr.mono (by decide)) (pa_cons (pv 1) pa_nil)))
  (pss_cons (ps_if (PW.pt (pw_or (pt_cmpR (op_neTup eqok_si hu) (pv 2) (pe_def GD (hr.mono (by decide)) (pa_cons (pv 0) pa_nil)) (nomark _)) (pw_or (pt_val (pe_callB call_isi rfl T.isi PyProof.Rows.boot_isinstance (pa_cons (pe_ix ix_tup (pv 2) pe_int (fun _ _=>rfl)) (pa_cons (pe_bltn (v:=.ty "bool") rfl T.mb PyProof.Rows.boot_bool rfl) pa_nil)))) (pw_or1 (pt_not (pt_val (pe_callB call_isi rfl T.isi PyProof.Rows.boot_isinstance (pa_cons (pe_ix ix_tup (pv 2) pe_int (fun _ _=>rfl)) (pa_cons (pe_bltn (v:=.ty "int") rfl T.mi PyProof.Rows.boot_int rfl) pa_nil)))))))))
   (pss_one (ps_ret pe_bl)) pss_nil)
  (pss_one (ps_ret (pe_or (pe_cmpR op_ne (pe_ix ix_tup (pv 2) pe_int (fun _ _=>rfl)) pe_str (nomark _)) (pe_one (pe_cmpR op_eq (pe_def GW hr (pa_cons (pe_defE (E:=E0) GR (hr.mono (by decide)) (passY noY) (pa_cons (pv 1) pa_nil)) pa_nil)) (pv 1) (nomark _)))))))),?_⟩
 have hb:=big
 have hlen:=paired_lenM hL
 have h190:=hok.len
 obtain ⟨j1,j2⟩:=hok.join
 refine ⟨rfl,_,rfl,a,rfl,⟨_,SqL.of ha⟩,?_⟩
 refine comp_listM (K:=K) (a:=a) (xs:=xs) (fun i ys H'=>Same H H' /\ ys = (L.take i).map fun l=>V.str l.2) (by omega) ⟨Same.refl _,rfl⟩ (fun i ys H' hi h=>⟨SqL.of (h.1 _ _ ha),by rw [h.2,List.length_map,List.length_take]; omega⟩) ?_ ?_
 ·rintro i x ys H' hx ⟨g,rfl⟩ KY hK
  obtain ⟨l,hl,p,ep,hp⟩:=paired_get (hL.mono g.t) hx
  refine ⟨_,rfl,p,_,_,_,ep,rfl,SqT.of hp,atI_nat (j:=1) (v:=V.str l.2) rfl,hK _ _ ⟨g,?_⟩⟩
  rw [List.take_add_one,hl,List.map_append] <;> rfl
 rintro ys H' ⟨g,rfl⟩ l hl
 rw [<- hlen,List.take_length]
 have el : (L.map fun l=>V.str l.2) = (L.map Prod.snd).map V.str:=by rw [List.map_map] <;> rfl
 rw [el]
 have hrows : ∀ y ∈ L.map Prod.snd,10 ∉ cs y /\ Tx y:=fun y hy=>by
  obtain ⟨l,hl,rfl⟩:=List.mem_map.mp hy
  exact (hok.good l hl).2.tx
 have hrl : (L.map Prod.snd).length <= 190:=by rw [List.length_map]; exact h190
 have ed:=due_told fun l hl=>(hok.good l hl).1
 have ewr:=fun (ts : List Th) (z : rd (cutR (L.map Prod.snd)) 0 0 [(0,[])] = .fin ts)=>read_written (Nat.le_trans (cutR_len _) (Nat.le_trans hrl (by decide))) z
 generalize L.map Prod.snd = rows at j1 j2 hrows hrl ed ewr ⊢
 have g1:=g.trans (same_new hl (.lst (rows.map V.str)))
 have e1 : upd H' l (.lst (rows.map V.str)) l = some (.lst (rows.map V.str)):=upd_same
 generalize upd H' l (.lst (rows.map V.str)) = H1 at g1 e1 ⊢
 refine ⟨_,l,rows,rfl,rfl,.inl (SqL.of e1),j1,?_⟩
 refine ⟨_,rfl,rows,rfl,hrows,j2,by omega,fun p H3 g3 hp3=>?_⟩
 have gA:=g1.trans g3
 refine ⟨_,rfl,_,rfl,a,xs,L,rfl,gA _ _ ha,hL.mono gA.t,by omega,fun p2 H4 g4 hp4=>?_⟩
 have gB:=gA.trans g4
 have hp34:=g4 _ _ hp3
 rw [ed] at hp34
 refine ⟨[.inl (dueL L).1,.inr (dueL L).2],[.inl (dueL L).1,.inr (dueL L).2],⟨p,_,rfl,SqT.of hp34,.cons rfl (.cons rfl .nil)⟩,⟨p2,_,rfl,SqT.of hp4,.cons rfl (.cons rfl .nil)⟩,_,rfl,?_⟩
 rw [show (decide ([Sum.inl (dueL L).1,Sum.inr (dueL L).2] = ([Sum.inl (dueL L).1,Sum.inr (dueL L).2] : List (Str ⊕ Int)))) = true from decide_eq_true rfl]
 refine iteF ?_
 refine ⟨_,rfl,p,_,_,_,rfl,rfl,SqT.of hp34,atI_nat (j:=1) (v:=V.int (dueL L).2) rfl,_,_,_,_,false,rfl,rfl,.int _,T.kb,_,rfl,iteF ?_⟩
 refine ⟨_,rfl,p,_,_,_,rfl,rfl,SqT.of hp34,atI_nat (j:=1) (v:=V.int (dueL L).2) rfl,_,_,_,_,true,rfl,rfl,.int _,T.ki,_,rfl,iteF ?_⟩
 refine ⟨_,rfl,p,_,_,_,rfl,rfl,SqT.of hp34,atI_nat (j:=0) (v:=V.str (dueL L).1) rfl,rfl,_,rfl,?_⟩
 refine ite2 (fun _=>q _ gB) (fun z=>?_)
 have hn : (dueL L).1 = "none":=by
  rw [Bool.not_eq_true',Bool.not_eq_false] at z
  exact V.str.inj (of_decide_eq_true z)
 rw [<- ed] at hn
 have hfin : ∃ ts,rd (cutR rows) 0 0 [(0,[])] = .fin ts:=by
  cases e : rd (cutR rows) 0 0 [(0,[])] with
  | fin ts=>exact ⟨ts,rfl⟩
  | row n=>rw [e] at hn; exact absurd (show ("row" : Str) = "none" from hn) (by decide +kernel)
  | deep=>rw [e] at hn; exact absurd hn (by decide +kernel)
  | opn=>rw [e] at hn; exact absurd hn (by decide +kernel)
 obtain ⟨ts,hts⟩:=hfin
 obtain ⟨w1,w2⟩:=ewr ts hts
 refine ⟨_,rfl,rows,rfl,hrows,j2,by omega,fun ts' e' v H5 g5 h5=>?_,fun n e'=>?_,fun e'=>?_,fun e'=>?_⟩
 ·rw [hts] at e'
  injection e' with e'
  subst e'
  refine ⟨v,L2.F.of ts,rfl,h5,w1,fun H6 g6=>?_⟩
  refine ⟨_,rfl,rfl,?_⟩
  have et : textF (L2.F.of ts) = Str.join "\n" rows:=by
   unfold textF
   rw [w2,join_cut]
  rw [et,decide_eq_true rfl]
  exact q _ ((gB.trans g5).trans g6)
 ·rw [hts] at e'; cases e'
 ·rw [hts] at e'; cases e'
 ·rw [hts] at e'; cases e'
end
end D
namespace D
open PySem L2
abbrev badS : Str:="!\"#$&'()*+,-./;<=?\x40[]^_`{|"
theorem bad_sign {c : Nat} (h : c ∈ cs badS) : good c = false /\ c ≠ 32 /\ c ≠ 58 /\ c ≠ 62 /\ c < 128 /\ c ≠ 10:=by
 have all : ∀ c ∈ cs badS,good c = false /\ c ≠ 32 /\ c ≠ 58 /\ c ≠ 62 /\ c < 128 /\ c ≠ 10:=by decide +kernel
 exact all c h
theorem ne_sign {x : Str} {c : Nat} (h : c ∈ cs x) (h1 : good c = false) : x ≠ "part" /\ x ≠ "end":=by
 refine ⟨fun z=>?_,fun z=>?_⟩
 ·rw [z] at h
  have all : ∀ c ∈ cs ("part" : Str),good c = true:=by decide +kernel
  rw [all c h] at h1; cases h1
 ·rw [z] at h
  have all : ∀ c ∈ cs ("end" : Str),good c = true:=by decide +kernel
  rw [all c h] at h1; cases h1
theorem spoil_odd {x R : Str} {k l j c : Nat} (hx : Nc x l j) (e : cs R = (cs x).take k ++ c :: (cs x).drop k) (hc : c ∈ cs badS) : OddRow R /\ Nc R (l + 1) j:=by
 obtain ⟨a1,a2,a3,a4,a5,a6⟩:=bad_sign hc
 have hm : c ∈ cs R:=by rw [e]; simp
 have ex : cs x = (cs x).take k ++ (cs x).drop k:=(List.take_append_drop _ _).symm
 refine ⟨⟨none_bad a1 a2 a3 a4 hm,ne_sign hm a1⟩,?_,fun d hd=>?_,?_⟩
 ·have:=hx.len
  rw [<- cs_len] at this ⊢
  have z:=congrArg List.length ex
  rw [List.length_append] at z
  rw [e,List.length_append,List.length_cons]
  omega
 ·rw [e] at hd
  rcases List.mem_append.mp hd with z | z
  ·exact hx.ok d (List.mem_of_mem_take z)
  ·rcases List.mem_cons.mp z with z | z
   ·rw [z]; exact ⟨a5,a6⟩
   ·exact hx.ok d (List.mem_of_mem_drop z)
 ·have:=hx.cnt
  rw [ex,List.count_append] at this
  rw [e,List.count_append,List.count_cons,if_neg (by simpa using a3)]
  omega
theorem join_two : ∀ {A B : List Str},A ≠ [] -> B ≠ [] -> cs (Str.join " " (A ++ B)) = cs (Str.join " " A) ++ 32 :: cs (Str.join " " B)
 | [],_,h,_=>absurd rfl h
 | [y],B,_,h=>by
  cases B with
  | nil=>exact absurd rfl h
  | cons z r =>
   show cs (Str.join " " (y :: z :: r)) = _
   rw [cs_joinM,show cs (" " : Str) = [32] by decide +kernel] <;> rfl
 | y :: z :: r,B,_,h=>by
  show cs (Str.join " " (y :: z :: (r ++ B))) = _
  rw [cs_joinM,cs_joinM,show cs (" " : Str) = [32] by decide +kernel,show z :: (r ++ B) = (z :: r) ++ B from rfl,join_two (by simp) h]
  simp
theorem dbl_odd {x : Str} {A B : List Str} {l j : Nat} (hx : Nc x l j) (e : Txt.split x " " = A ++ B) (h1 : A ≠ []) (h2 : B ≠ []) : OddRow (Str.join " " A ++ "  " ++ Str.join " " B) /\ Nc (Str.join " " A ++ "  " ++ Str.join " " B) (l + 1) j:=by
 have ej:=StrLaws.join_split x " "
 rw [e] at ej
 have ex : cs x = cs (Str.join " " A) ++ 32 :: cs (Str.join " " B):=by rw [<- join_two h1 h2,ej]
 have eR : cs (Str.join " " A ++ "  " ++ Str.join " " B) = cs (Str.join " " A) ++ 32 :: 32 :: cs (Str.join " " B):=by
  rw [cs_app,cs_app,show cs ("  " : Str) = [32,32] by decide +kernel,List.append_assoc] <;> rfl
 have hm : 32 ∈ cs (Str.join " " A ++ "  " ++ Str.join " " B):=by rw [eR]; simp
 refine ⟨⟨none_tight (by rw [eR]; exact not_tight2),ne_sign hm (by decide)⟩,?_,fun d hd=>?_,?_⟩
 ·have:=hx.len
  rw [<- cs_len] at this ⊢
  rw [ex,List.length_append,List.length_cons] at this
  rw [eR,List.length_append,List.length_cons,List.length_cons]
  omega
 ·refine hx.ok d ?_
  rw [eR] at hd
  rw [ex]
  rcases List.mem_append.mp hd with z | z
  ·exact List.mem_append_left _ z
  ·rcases List.mem_cons.mp z with z | z
   ·rw [z]; simp
   ·exact List.mem_append_right _ z
 ·have:=hx.cnt
  rw [ex,List.count_append,List.count_cons,if_neg (by decide)] at this
  rw [eR,List.count_append,List.count_cons,List.count_cons,if_neg (by decide)]
  omega
theorem cs_join58 (z : Str) : ∀ {ys : List Str},ys ≠ [] -> (∀ y ∈ ys,58 ∉ cs y) -> (cs z).count 58 = 1 -> (cs (Str.join z ys)).count 58 + 1 = ys.length /\ (cs (Str.join z ys)).length = (ys.map fun y=>(cs y).length).sum + (ys.length - 1) * (cs z).length
 | [],h,_,_=>absurd rfl h
 | [y],_,hf,_=>by
  refine ⟨?_,?_⟩
  ·show (cs y).count 58 + 1 = 1
   rw [List.count_eq_zero.mpr (hf y List.mem_cons_self)]
  ·show (cs y).length = (cs y).length + 0 + (1 - 1) * _
   omega
 | y :: w :: r,_,hf,h1=>by
  obtain ⟨a,b⟩:=cs_join58 z (ys:=w :: r) (by simp) (fun v hv=>hf v (List.mem_cons_of_mem _ hv)) h1
  rw [cs_joinM]
  refine ⟨?_,?_⟩
  ·rw [List.count_append,List.count_append,h1,List.count_eq_zero.mpr (hf y List.mem_cons_self)]
   rw [List.length_cons]
   omega
  ·rw [List.length_append,List.length_append,b]
   show (cs y).length + ((cs z).length + (((w :: r).map fun y=>(cs y).length).sum + (r.length + 1 - 1) * (cs z).length)) = ((cs y).length + ((w :: r).map fun y=>(cs y).length).sum) + (r.length + 1 + 1 - 1) * (cs z).length
   have : (r.length + 1 + 1 - 1) * (cs z).length = (cs z).length + (r.length + 1 - 1) * (cs z).length:=by
    rw [show r.length + 1 + 1 - 1 = r.length + 1 by omega,show r.length + 1 - 1 = r.length by omega,Nat.add_mul]
    omega
   rw [this]
   omega
theorem cut_uniqR {c : Nat} {u p v w : List Nat} (e : u ++ c :: v = p ++ c :: w) (h1 : c ∉ v) (h2 : c ∉ w) : v = w:=by
 have e:=congrArg List.reverse e
 simp only [List.reverse_append,List.reverse_cons,List.append_assoc] at e
 have z:=(cut_uniq (show v.reverse ++ c :: u.reverse = w.reverse ++ c :: p.reverse by simpa using e) (by simpa using h1) (by simpa using h2)).1
 exact List.reverse_inj.mp z
theorem mem_of_join {c : Nat} {s : Str} (hs : c ∉ cs s) {ys : List Str} (h : c ∈ cs (Str.join s ys)) : ∃ y ∈ ys,c ∈ cs y:=Classical.byContradiction fun z=>free_join hs (fun y hy w=>z ⟨y,hy,w⟩) h
theorem repl_odd {x a : Str} {l j : Nat} (hx : Nc x l j) (ha : Wd a) (h62 : 62 ∈ cs x) : OddRow (Txt.replace x ":" (" " ++ a ++ ":")) /\ Nc (Txt.replace x ":" (" " ++ a ++ ":")) (l + 21 * j) j:=by
 have eo : (":" : Str) = ⟨#[58]⟩:=by decide +kernel
 have er : Txt.replace x ":" (" " ++ a ++ ":") = Str.join (" " ++ a ++ ":") (Txt.split x ":"):=by
  rw [eo]
  exact StrLaws.replace_one x _ 58
 rw [er]
 have hf : ∀ p ∈ Txt.split x ":",58 ∉ cs p:=by
  rw [eo]
  exact StrLaws.split_free x 58
 have hj:=StrLaws.join_split x ":"
 have hne : Txt.split x ":" ≠ []:=split_ne x ":"
 generalize Txt.split x ":" = ys at hf hj hne ⊢
 have ez : cs (" " ++ a ++ ":") = 32 :: (cs a ++ [58]):=by
  rw [cs_app,cs_app,show cs (" " : Str) = [32] by decide +kernel,show cs (":" : Str) = [58] by decide +kernel] <;> rfl
 have a58 : 58 ∉ cs a:=good_free ha.2.2 (by decide)
 have z1 : (cs (" " ++ a ++ ":")).count 58 = 1:=by
  rw [ez,List.count_cons,List.count_append,List.count_eq_zero.mpr a58] <;> rfl
 have zl : (cs (" " ++ a ++ ":")).length <= 22:=by
  rw [ez,List.length_cons,List.length_append,cs_len]
  have:=ha.2.1
  show _ + 1 + 1 <= 22
  omega
 obtain ⟨c1,l1⟩:=cs_join58 (" " ++ a ++ ":") hne hf z1
 obtain ⟨c2,l2⟩:=cs_join58 ":" hne hf (by decide +kernel)
 rw [hj] at c2 l2
 rw [show (cs (":" : Str)).length = 1 by decide +kernel] at l2
 have hm62 : 62 ∈ cs (Str.join (" " ++ a ++ ":") ys):=by
  rw [<- hj] at h62
  obtain ⟨y,hy,w⟩:=mem_of_join (by decide +kernel) h62
  exact mem_joinM hy w
 refine ⟨⟨none_of fun n t h=>?_,ne_sign hm62 (by decide)⟩,?_,fun d hd=>?_,?_⟩
 ·rcases row_cases h with ⟨ws,hw,e⟩ | ⟨sc,ph,bs,ms,ok,e⟩
  ·rw [e] at hm62
   rcases List.mem_append.mp hm62 with z | z
   ·exact absurd z (by decide)
   ·rcases List.mem_cons.mp z with z | z
    ·exact absurd z (by decide)
    ·exact hw.free (by decide) (by decide) z
  ·
   have n58:=ok.no58
   have m58 : 58 ∉ cs (Str.join " " ms):=ok.hms.free (by decide) (by decide)
   have c3 : (cs (Str.join (" " ++ a ++ ":") ys)).count 58 = 1:=by
    rw [e,List.count_append,List.count_cons,List.count_cons,List.count_eq_zero.mpr n58,List.count_eq_zero.mpr m58] <;> rfl
   have hl : ys.length = 2:=by omega
   match ys,hl,hf,e with
   | [p,r],_,hf,e =>
    have e2 : cs (Str.join (" " ++ a ++ ":") [p,r]) = (cs p ++ 32 :: cs a) ++ 58 :: cs r:=by
     show cs (p ++ (" " ++ a ++ ":") ++ r) = _
     rw [cs_app,cs_app,ez]
     simp
    rw [e2] at e
    have u58 : 58 ∉ cs p ++ 32 :: cs a:=fun z=>by
     rcases List.mem_append.mp z with z | z
     ·exact hf p List.mem_cons_self z
     ·rcases List.mem_cons.mp z with z | z
      ·exact absurd z (by decide)
      ·exact a58 z
    obtain ⟨e3,e4⟩:=cut_uniq e u58 n58
    have hb : bs ≠ []:=fun z=>by
     subst z
     rw [e2] at hm62
     have : 62 ∈ (cs p ++ 32 :: cs a) ∨ 62 ∈ 58 :: cs r:=List.mem_append.mp hm62
     rcases this with y | y
     ·rw [e3] at y
      rcases List.mem_append.mp y with y | y
      ·exact absurd y (by decide)
      ·rcases List.mem_cons.mp y with y | y
       ·exact absurd y (by decide)
       ·obtain ⟨v,hv,w⟩:=mem_of_join (by decide +kernel) y
        rcases List.mem_cons.mp hv with v1 | v1
        ·rw [v1] at w; exact good_free (sc_good ok.hsc).2.2 (by decide) w
        ·rw [List.map_nil,List.append_nil] at v1
         exact good_free (ok.hph v v1).2.2 (by decide) w
     ·rcases List.mem_cons.mp y with y | y
      ·exact absurd y (by decide)
      ·rw [e4] at y
       rcases List.mem_cons.mp y with y | y
       ·exact absurd y (by decide)
       ·exact ok.hms.free (by decide) (by decide) y
    obtain ⟨bs',b,rfl⟩:=snoc_of hb
    have e5 : pcX sc ph (bs' ++ [b]) = (sc :: (ph ++ bs'.map bX)) ++ [bX b]:=by
     unfold pcX
     rw [List.map_append]
     simp
    rw [e5,join_two (by simp) (by simp)] at e3
    have e6 : cs p ++ 32 :: cs a = ([116,101,108,108] ++ 32 :: cs (Str.join " " (sc :: (ph ++ bs'.map bX)))) ++ 32 :: cs (bX b):=by
     rw [e3]
     show _ = _
     simp
     rfl
    have hbd:=ok.bd b (by simp)
    have nb : 32 ∉ cs (bX b):=fun z=>by
     rw [cs_bX] at z
     rcases List.mem_append.mp z with z | z
     ·exact good_free hbd.2.2.1 (by decide) z
     ·rcases List.mem_cons.mp z with z | z
      ·exact absurd z (by decide)
      ·exact good_free hbd.2.2.2 (by decide) z
    have e7:=cut_uniqR e6 (good_free ha.2.2 (by decide)) nb
    have : 62 ∈ cs a:=by rw [e7,cs_bX]; simp
    exact good_free ha.2.2 (by decide) this
 ·have h1:=hx.len
  have h2:=hx.cnt
  rw [<- cs_len] at h1 ⊢
  rw [l2] at h1
  rw [l1]
  have : (ys.length - 1) * (cs (" " ++ a ++ ":")).length <= (ys.length - 1) * 22:=Nat.mul_le_mul_left _ zl
  omega
 ·by_cases z : d ∈ cs (" " ++ a ++ ":")
  ·rw [ez] at z
   rcases List.mem_cons.mp z with z | z
   ·rw [z]; decide
   ·rcases List.mem_append.mp z with z | z
    ·exact good_ok (List.all_eq_true.mp ha.2.2 d z)
    ·rw [List.mem_singleton.mp z]; decide
  ·obtain ⟨y,hy,w⟩:=mem_of_join z hd
   refine hx.ok d ?_
   rw [<- hj]
   exact mem_joinM hy w
 ·have h2:=hx.cnt
  omega
end D
namespace D
open PySem L2
def spMany (K : PySem.W.Frag) : Sp:=fun vs H Q _=>∃ (l : Addr) (a b : Str),vs = [.ref l,.int 201] /\ SqL K H l [.str a,.str b] /\ Wd a /\ Wd b /\ ∀ m H',Same H H' -> Many m -> Q (.str m) H'
def spOdds (n : Nat) : Sp:=fun vs H Q _=>∃ a b : Str,vs = [.str a,.str b] /\ Wd a /\ Wd b /\ ∀ (xs : List Str) r H',Same H H' -> H' r = some (.lst (xs.map V.str)) -> (∀ x ∈ xs,OddN x) -> xs.length = n -> Q (.ref r) H'
theorem catB {x y : Str} {l k l' k' : Nat} (a : Nc x l k) (b : Nc y l' k') (h : l + l' <= 2000000:=by decide) : x.length + y.length <= sizeLine:=by
 have:=a.len
 have:=b.len
 have hz : 2000000 <= sizeLine:=by decide
 omega
def says0 (a b m : Str) : List Str:=[""," ","say","say ","say  " ++ a,"say " ++ a ++ " "," say " ++ a,"Say " ++ a,"says " ++ a,"row " ++ a]
def says1 (a b m : Str) : List Str:=["say " ++ a ++ "  " ++ b,"say " ++ a ++ ", " ++ b,"say " ++ a ++ ">","say " ++ a ++ ": " ++ b,"say: " ++ a]
def says2 (a b m : Str) : List Str:=["say abcdefghij0123456789k","say " ++ m,"saying","part ","part " ++ a,"Part"]
def says3 (a b m : Str) : List Str:=["parts"," part","end ","end " ++ a,"End"," end","ended","part end","tell","tell all","all"]
def tells0 (a b m : Str) : List Str:=["tell all " ++ a,"tell all " ++ a ++ ":","tell all " ++ a ++ ": ","tell all " ++ a ++ ":" ++ b,"tell all: " ++ b]
def tells1 (a b m : Str) : List Str:=["tell all >s: " ++ a,"tell any " ++ a ++ ": " ++ b,"tell All " ++ a ++ ": " ++ b,"tell  all w: " ++ b]
def tells2 (a b m : Str) : List Str:=["tell all  w: " ++ b,"tell all w : " ++ b,"tell all a b c d e: " ++ b,"tell all w >s >s: " ++ b]
def tells3 (a b m : Str) : List Str:=["tell all w >: " ++ b,"tell all w w>: " ++ b,"tell all w v>s: " ++ b,"tell all wv ww>: " ++ b]
def tells4 (a b m : Str) : List Str:=["tell all w >1 >2 >3 >4 >5 >6: " ++ b,"tell all w >1 v: " ++ b,"tell all w >1>2: " ++ b,"tell w: " ++ b]
def tells5 (a b m : Str) : List Str:=["tell w all: " ++ b,"tell all here w >s all: " ++ b,"tell here: " ++ b,"tell w part >s: " ++ b]
def tells6 (a b m : Str) : List Str:=["tell all w >s : " ++ b,"tell all w: " ++ a ++ " : " ++ b,"tell all w: " ++ m]
def tells7 (a b m : Str) : List Str:=["tell all w >abcdefghij0123456789: " ++ b,"tell all abcdefghij0123456789k: " ++ b,"Tell all w: " ++ b]
def tells8 (a b m : Str) : List Str:=["tell all w:  " ++ b,"tell all w: " ++ b ++ " ","tell all w >s w>ws: " ++ b,"tell all w s: > " ++ b]
theorem asg3m {a b : Str} (_ha : Wd a) (_hb : Wd b) {σ : St} {H : Hp} {D : Ends} {i j : Nat} {u : TS} {t : TA} {l : Addr} {xs : List Str} {zs : Str -> List Str} (hj : σ[j]? = some (some (.ref l))) (h1 : H l = some (.lst (xs.map V.str))) (hz : ∀ m,xs.length + (zs m).length <= 1000) (ht : ∀ Q : List V -> Hp -> Prop,(∀ m,Many m -> ∀ H',Same H H' -> Q ((zs m).map V.str) H') -> t σ H Q) (q : ∀ m,Many m -> ∀ p H',Same H H' -> H' p = some (.lst ((xs ++ zs m).map V.str)) -> u D (σ.set i (some (.ref p))) H') : tSeq (tAsg (tOp rCat (tVar j) (tLst t)) (gName i)) u D σ H:=by
 refine ⟨_,hj,?_⟩
 show t σ H fun zs H1=>zs.length <= sizeLine /\ ∀ p,H1 p = none -> rCat (.ref l) (.ref p) (upd H1 p (.lst zs)) fun x H2=>u D (σ.set i (some x)) H2
 exact ht _ fun m hm H0 g0=>⟨by rw [List.length_map]; exact Nat.le_trans (Nat.le_trans (Nat.le_add_left _ _) (hz m)) (by decide),fun p hp=>cat_rd (same_upd hp _ _ _ (g0 _ _ h1)) upd_same (hz m) fun r H2 g2 e2=>q m hm r H2 ((g0.trans (same_upd hp _)).trans g2) e2⟩
section
variable {P : Program} {w : World} {K : PySem.W.Frag} {mg : Str -> Option Value} {base : Heap} {f : Addr} {fd : FuncData}
theorem scSays : FnScope ["_law_a","_law_b","_law_odd_here"] ["_law_a","_law_b"] (defScope s_l_odd_says):=⟨rfl,rfl,rfl,by decide +kernel,rfl,by decide +kernel,by decide +kernel⟩
set_option maxHeartbeats 8000000 in
theorem ok_says (F : Fun K "_law_odd_says" "_law_odd_says" s_l_odd_says f fd) (GM : Def P w K mg base CX0 1 "_law_many" ["_law_words","_law_many_here"] (spMany K)) : FnOk P w K mg base CX0 2 f fd ["_law_a","_law_b"] (spOdds 32):=by
 refine F.ok scSays (fun vs H Q E h=>?_) (fun cdv A outer s H vs Q E hr h=>?_)
 ·obtain ⟨a,b,rfl,_⟩:=h
  rfl
 obtain ⟨a,b,rfl,ha,hb,q⟩:=h
 refine ⟨_,(pss_cons (ps_set (i:=2) scSays.nd rfl (Or.inl rfl) (pe_lst (show PA _ _ (tSEs [(.lit ""),(.lit " "),(.lit "say"),(.lit "say "),(.cat (.lit "say  ") (.v 0)),(.cat (.cat (.lit "say ") (.v 0)) (.lit " ")),(.cat (.lit " say ") (.v 0)),(.cat (.lit "Say ") (.v 0)),(.cat (.lit "says ") (.v 0)),(.cat (.lit "row ") (.v 0))]) from (pa_cons pe_str (pa_cons pe_str (pa_cons pe_str (pa_cons pe_str (pa_cons (pe_op op_add_str pe_str (pv 0)) (pa_cons (pe_op op_add_str (pe_op op_add_str pe_str (pv 0)) pe_str) (pa_cons (pe_op op_add_str pe_str (pv 0)) (pa_cons (pe_op op_add_str pe_str (pv 0)) (pa_cons (pe_op op_add_str pe_str (pv 0)) (pa_cons (pe_op op_add_str pe_str (pv 0)) pa_nil)))))))))))))
  (pss_cons (ps_set (i:=2) scSays.nd rfl (Or.inl rfl) (pe_op op_cat (pv 2) (pe_lst (show PA _ _ (tSEs [(.cat (.cat (.cat (.lit "say ") (.v 0)) (.lit "  ")) (.v 1)),(.cat (.cat (.cat (.lit "say ") (.v 0)) (.lit ", ")) (.v 1)),(.cat (.cat (.lit "say ") (.v 0)) (.lit ">")),(.cat (.cat (.cat (.lit "say ") (.v 0)) (.lit ": ")) (.v 1)),(.cat (.lit "say: ") (.v 0))]) from (pa_cons (pe_op op_add_str (pe_op op_add_str (pe_op op_add_str pe_str (pv 0)) pe_str) (pv 1)) (pa_cons (pe_op op_add_str (pe_op op_add_str (pe_op op_add_str pe_str (pv 0)) pe_str) (pv 1)) (pa_cons (pe_op op_add_str (pe_op op_add_str pe_str (pv 0)) pe_str) (pa_cons (pe_op op_add_str (pe_op op_add_str (pe_op op_add_str pe_str (pv 0)) pe_str) (pv 1)) (pa_cons (pe_op op_add_str pe_str (pv 0)) pa_nil)))))))))
  (pss_cons (ps_set (i:=2) scSays.nd rfl (Or.inl rfl) (pe_op op_cat (pv 2) (pe_lst (pa_cons pe_str (pa_cons (pe_op op_add_str pe_str (pe_def GM hr (pa_cons (pe_lst (pa_cons (pv 0) (pa_cons (pv 1) pa_nil))) (pa_cons pe_int pa_nil)))) (pa_cons pe_str (pa_cons pe_str (pa_cons (pe_op op_add_str pe_str (pv 0)) (pa_cons pe_str pa_nil)))))))))
  (pss_one (ps_ret (pe_op op_cat (pv 2) (pe_lst (show PA _ _ (tSEs [(.lit "parts"),(.lit " part"),(.lit "end "),(.cat (.lit "end ") (.v 0)),(.lit "End"),(.lit " end"),(.lit "ended"),(.lit "part end"),(.lit "tell"),(.lit "tell all"),(.lit "all")]) from (pa_cons pe_str (pa_cons pe_str (pa_cons pe_str (pa_cons (pe_op op_add_str pe_str (pv 0)) (pa_cons pe_str (pa_cons pe_str (pa_cons pe_str (pa_cons pe_str (pa_cons pe_str (pa_cons pe_str (pa_cons pe_str pa_nil))))))))))))))))))),?_⟩
 have hv : ∀ u : Option V,∀ i ∈ [0,1],([some (V.str a),some (V.str b),u] : St)[i]? = some (some (.str ((fun i : Nat=>if i = 0 then a else b) i))) /\ ((fun i : Nat=>if i = 0 then a else b) i).length <= 5000:=fun u i hi=>by
  simp only [List.mem_cons,List.not_mem_nil,or_false] at hi
  rcases hi with rfl | rfl
  ·exact ⟨rfl,Nat.le_trans ha.2.1 (by decide)⟩
  ·exact ⟨rfl,Nat.le_trans hb.2.1 (by decide)⟩
 show tSeq _ _ _ [some (V.str a),some (V.str b),none] H
 refine asg1_rd (fun i=>if i = 0 then a else b) [0,1] [(.lit ""),(.lit " "),(.lit "say"),(.lit "say "),(.cat (.lit "say  ") (.v 0)),(.cat (.cat (.lit "say ") (.v 0)) (.lit " ")),(.cat (.lit " say ") (.v 0)),(.cat (.lit "Say ") (.v 0)),(.cat (.lit "says ") (.v 0)),(.cat (.lit "row ") (.v 0))] (says0 a b "") (hv _) (by decide +kernel) rfl (by show 10 <= 1000; decide) fun p0 H0 G0 c0=>?_
 refine asg2_rd (fun i=>if i = 0 then a else b) [0,1] [(.cat (.cat (.cat (.lit "say ") (.v 0)) (.lit "  ")) (.v 1)),(.cat (.cat (.cat (.lit "say ") (.v 0)) (.lit ", ")) (.v 1)),(.cat (.cat (.lit "say ") (.v 0)) (.lit ">")),(.cat (.cat (.cat (.lit "say ") (.v 0)) (.lit ": ")) (.v 1)),(.cat (.lit "say: ") (.v 0))] (says1 a b "") (hv _) (by decide +kernel) rfl (by show 5 <= 1000; decide) rfl c0 (by show 15 <= 1000; decide) fun p1 H1 g1 c1=>?_
 have G1:=G0.trans g1
 refine asg3m ha hb (zs:=fun m=>says2 a b m) (l:=p1) rfl c1 (by intro m; show 21 <= 1000; decide) (fun Q qq=>?_) fun m hm p2 H2 g2 c2=>?_
 ·refine ⟨_,rfl,_,rfl,(by show 2 <= sizeLine; decide),fun pm hpm=>?_⟩
  refine ⟨pm,a,b,rfl,SqL.of upd_same,ha,hb,fun m Hm gm2 hm=>?_⟩
  refine ⟨_,_,rfl,rfl,catB (Nc.lit (by decide +kernel)) (Nc.many hm),_,rfl,_,_,rfl,rfl,catB (Nc.lit (by decide +kernel)) (Nc.w ha),?_⟩
  exact qq m hm Hm ((same_new hpm _).trans gm2)
 have G2:=G1.trans g2
 refine ret2_rd (fun i=>if i = 0 then a else b) [0,1] [(.lit "parts"),(.lit " part"),(.lit "end "),(.cat (.lit "end ") (.v 0)),(.lit "End"),(.lit " end"),(.lit "ended"),(.lit "part end"),(.lit "tell"),(.lit "tell all"),(.lit "all")] (says3 a b m) (hv _) (by decide +kernel) rfl (by show 11 <= 1000; decide) rfl c2 (by show 32 <= 1000; decide) fun p3 H3 g3 c3=>?_
 have G3:=G2.trans g3
 exact q (saysL a b m) _ _ G3 c3 (says_odd ha hb hm) rfl
end
end D
namespace D
open PySem L2
section
variable {P : Program} {w : World} {K : PySem.W.Frag} {mg : Str -> Option Value} {base : Heap} {f : Addr} {fd : FuncData}
theorem scTells : FnScope ["_law_a","_law_b","_law_odd_here"] ["_law_a","_law_b"] (defScope s_l_odd_tells):=⟨rfl,rfl,rfl,by decide +kernel,rfl,by decide +kernel,by decide +kernel⟩
set_option maxHeartbeats 8000000 in
theorem ok_tells (F : Fun K "_law_odd_tells" "_law_odd_tells" s_l_odd_tells f fd) (GM : Def P w K mg base CX0 1 "_law_many" ["_law_words","_law_many_here"] (spMany K)) : FnOk P w K mg base CX0 2 f fd ["_law_a","_law_b"] (spOdds 35):=by
 refine F.ok scTells (fun vs H Q E h=>?_) (fun cdv A outer s H vs Q E hr h=>?_)
 ·obtain ⟨a,b,rfl,_⟩:=h
  rfl
 obtain ⟨a,b,rfl,ha,hb,q⟩:=h
 refine ⟨_,(pss_cons (ps_set (i:=2) scTells.nd rfl (Or.inl rfl) (pe_lst (show PA _ _ (tSEs [(.cat (.lit "tell all ") (.v 0)),(.cat (.cat (.lit "tell all ") (.v 0)) (.lit ":")),(.cat (.cat (.lit "tell all ") (.v 0)) (.lit ": ")),(.cat (.cat (.cat (.lit "tell all ") (.v 0)) (.lit ":")) (.v 1)),(.cat (.lit "tell all: ") (.v 1))]) from (pa_cons (pe_op op_add_str pe_str (pv 0)) (pa_cons (pe_op op_add_str (pe_op op_add_str pe_str (pv 0)) pe_str) (pa_cons (pe_op op_add_str (pe_op op_add_str pe_str (pv 0)) pe_str) (pa_cons (pe_op op_add_str (pe_op op_add_str (pe_op op_add_str pe_str (pv 0)) pe_str) (pv 1)) (pa_cons (pe_op op_add_str pe_str (pv 1)) pa_nil))))))))
  (pss_cons (ps_set (i:=2) scTells.nd rfl (Or.inl rfl) (pe_op op_cat (pv 2) (pe_lst (show PA _ _ (tSEs [(.cat (.lit "tell all >s: ") (.v 0)),(.cat (.cat (.cat (.lit "tell any ") (.v 0)) (.lit ": ")) (.v 1)),(.cat (.cat (.cat (.lit "tell All ") (.v 0)) (.lit ": ")) (.v 1)),(.cat (.lit "tell  all w: ") (.v 1))]) from (pa_cons (pe_op op_add_str pe_str (pv 0)) (pa_cons (pe_op op_add_str (pe_op op_add_str (pe_op op_add_str pe_str (pv 0)) pe_str) (pv 1)) (pa_cons (pe_op op_add_str (pe_op op_add_str (pe_op op_add_str pe_str (pv 0)) pe_str) (pv 1)) (pa_cons (pe_op op_add_str pe_str (pv 1)) pa_nil))))))))
  (pss_cons (ps_set (i:=2) scTells.nd rfl (Or.inl rfl) (pe_op op_cat (pv 2) (pe_lst (show PA _ _ (tSEs [(.cat (.lit "tell all  w: ") (.v 1)),(.cat (.lit "tell all w : ") (.v 1)),(.cat (.lit "tell all a b c d e: ") (.v 1)),(.cat (.lit "tell all w >s >s: ") (.v 1))]) from (pa_cons (pe_op op_add_str pe_str (pv 1)) (pa_cons (pe_op op_add_str pe_str (pv 1)) (pa_cons (pe_op op_add_str pe_str (pv 1)) (pa_cons (pe_op op_add_str pe_str (pv 1)) pa_nil))))))))
  (pss_cons (ps_set (i:=2) scTells.nd rfl (Or.inl rfl) (pe_op op_cat (pv 2) (pe_lst (show PA _ _ (tSEs [(.cat (.lit "tell all w >: ") (.v 1)),(.cat (.lit "tell all w w>: ") (.v 1)),(.cat (.lit "tell all w v>s: ") (.v 1)),(.cat (.lit "tell all wv ww>: ") (.v 1))]) from (pa_cons (pe_op op_add_str pe_str (pv 1)) (pa_cons (pe_op op_add_str pe_str (pv 1)) (pa_cons (pe_op op_add_str pe_str (pv 1)) (pa_cons (pe_op op_add_str pe_str (pv 1)) pa_nil))))))))
  (pss_cons (ps_set (i:=2) scTells.nd rfl (Or.inl rfl) (pe_op op_cat (pv 2) (pe_lst (show PA _ _ (tSEs [(.cat (.lit "tell all w >1 >2 >3 >4 >5 >6: ") (.v 1)),(.cat (.lit "tell all w >1 v: ") (.v 1)),(.cat (.lit "tell all w >1>2: ") (.v 1)),(.cat (.lit "tell w: ") (.v 1))]) from (pa_cons (pe_op op_add_str pe_str (pv 1)) (pa_cons (pe_op op_add_str pe_str (pv 1)) (pa_cons (pe_op op_add_str pe_str (pv 1)) (pa_cons (pe_op op_add_str pe_str (pv 1)) pa_nil))))))))
  (pss_cons (ps_set (i:=2) scTells.nd rfl (Or.inl rfl) (pe_op op_cat (pv 2) (pe_lst (show PA _ _ (tSEs [(.cat (.lit "tell w all: ") (.v 1)),(.cat (.lit "tell all here w >s all: ") (.v 1)),(.cat (.lit "tell here: ") (.v 1)),(.cat (.lit "tell w part >s: ") (.v 1))]) from (pa_cons (pe_op op_add_str pe_str (pv 1)) (pa_cons (pe_op op_add_str pe_str (pv 1)) (pa_cons (pe_op op_add_str pe_str (pv 1)) (pa_cons (pe_op op_add_str pe_str (pv 1)) pa_nil))))))))
  (pss_cons (ps_set (i:=2) scTells.nd rfl (Or.inl rfl) (pe_op op_cat (pv 2) (pe_lst (pa_cons (pe_op op_add_str pe_str (pv 1)) (pa_cons (pe_op op_add_str (pe_op op_add_str (pe_op op_add_str pe_str (pv 0)) pe_str) (pv 1)) (pa_cons (pe_op op_add_str pe_str (pe_def GM hr (pa_cons (pe_lst (pa_cons (pv 0) (pa_cons (pv 1) pa_nil))) (pa_cons pe_int pa_nil)))) pa_nil))))))
  (pss_cons (ps_set (i:=2) scTells.nd rfl (Or.inl rfl) (pe_op op_cat (pv 2) (pe_lst (show PA _ _ (tSEs [(.cat (.lit "tell all w >abcdefghij0123456789: ") (.v 1)),(.cat (.lit "tell all abcdefghij0123456789k: ") (.v 1)),(.cat (.lit "Tell all w: ") (.v 1))]) from (pa_cons (pe_op op_add_str pe_str (pv 1)) (pa_cons (pe_op op_add_str pe_str (pv 1)) (pa_cons (pe_op op_add_str pe_str (pv 1)) pa_nil)))))))
  (pss_one (ps_ret (pe_op op_cat (pv 2) (pe_lst (show PA _ _ (tSEs [(.cat (.lit "tell all w:  ") (.v 1)),(.cat (.cat (.lit "tell all w: ") (.v 1)) (.lit " ")),(.cat (.lit "tell all w >s w>ws: ") (.v 1)),(.cat (.lit "tell all w s: > ") (.v 1))]) from (pa_cons (pe_op op_add_str pe_str (pv 1)) (pa_cons (pe_op op_add_str (pe_op op_add_str pe_str (pv 1)) pe_str) (pa_cons (pe_op op_add_str pe_str (pv 1)) (pa_cons (pe_op op_add_str pe_str (pv 1)) pa_nil))))))))))))))))),?_⟩
 have hv : ∀ u : Option V,∀ i ∈ [0,1],([some (V.str a),some (V.str b),u] : St)[i]? = some (some (.str ((fun i : Nat=>if i = 0 then a else b) i))) /\ ((fun i : Nat=>if i = 0 then a else b) i).length <= 5000:=fun u i hi=>by
  simp only [List.mem_cons,List.not_mem_nil,or_false] at hi
  rcases hi with rfl | rfl
  ·exact ⟨rfl,Nat.le_trans ha.2.1 (by decide)⟩
  ·exact ⟨rfl,Nat.le_trans hb.2.1 (by decide)⟩
 show tSeq _ _ _ [some (V.str a),some (V.str b),none] H
 refine asg1_rd (fun i=>if i = 0 then a else b) [0,1] [(.cat (.lit "tell all ") (.v 0)),(.cat (.cat (.lit "tell all ") (.v 0)) (.lit ":")),(.cat (.cat (.lit "tell all ") (.v 0)) (.lit ": ")),(.cat (.cat (.cat (.lit "tell all ") (.v 0)) (.lit ":")) (.v 1)),(.cat (.lit "tell all: ") (.v 1))] (tells0 a b "") (hv _) (by decide +kernel) rfl (by show 5 <= 1000; decide) fun p0 H0 G0 c0=>?_
 refine asg2_rd (fun i=>if i = 0 then a else b) [0,1] [(.cat (.lit "tell all >s: ") (.v 0)),(.cat (.cat (.cat (.lit "tell any ") (.v 0)) (.lit ": ")) (.v 1)),(.cat (.cat (.cat (.lit "tell All ") (.v 0)) (.lit ": ")) (.v 1)),(.cat (.lit "tell  all w: ") (.v 1))] (tells1 a b "") (hv _) (by decide +kernel) rfl (by show 4 <= 1000; decide) rfl c0 (by show 9 <= 1000; decide) fun p1 H1 g1 c1=>?_
 have G1:=G0.trans g1
 refine asg2_rd (fun i=>if i = 0 then a else b) [0,1] [(.cat (.lit "tell all  w: ") (.v 1)),(.cat (.lit "tell all w : ") (.v 1)),(.cat (.lit "tell all a b c d e: ") (.v 1)),(.cat (.lit "tell all w >s >s: ") (.v 1))] (tells2 a b "") (hv _) (by decide +kernel) rfl (by show 4 <= 1000; decide) rfl c1 (by show 13 <= 1000; decide) fun p2 H2 g2 c2=>?_
 have G2:=G1.trans g2
 refine asg2_rd (fun i=>if i = 0 then a else b) [0,1] [(.cat (.lit "tell all w >: ") (.v 1)),(.cat (.lit "tell all w w>: ") (.v 1)),(.cat (.lit "tell all w v>s: ") (.v 1)),(.cat (.lit "tell all wv ww>: ") (.v 1))] (tells3 a b "") (hv _) (by decide +kernel) rfl (by show 4 <= 1000; decide) rfl c2 (by show 17 <= 1000; decide) fun p3 H3 g3 c3=>?_
 have G3:=G2.trans g3
 refine asg2_rd (fun i=>if i = 0 then a else b) [0,1] [(.cat (.lit "tell all w >1 >2 >3 >4 >5 >6: ") (.v 1)),(.cat (.lit "tell all w >1 v: ") (.v 1)),(.cat (.lit "tell all w >1>2: ") (.v 1)),(.cat (.lit "tell w: ") (.v 1))] (tells4 a b "") (hv _) (by decide +kernel) rfl (by show 4 <= 1000; decide) rfl c3 (by show 21 <= 1000; decide) fun p4 H4 g4 c4=>?_
 have G4:=G3.trans g4
 refine asg2_rd (fun i=>if i = 0 then a else b) [0,1] [(.cat (.lit "tell w all: ") (.v 1)),(.cat (.lit "tell all here w >s all: ") (.v 1)),(.cat (.lit "tell here: ") (.v 1)),(.cat (.lit "tell w part >s: ") (.v 1))] (tells5 a b "") (hv _) (by decide +kernel) rfl (by show 4 <= 1000; decide) rfl c4 (by show 25 <= 1000; decide) fun p5 H5 g5 c5=>?_
 have G5:=G4.trans g5
 refine asg3m ha hb (zs:=fun m=>tells6 a b m) (l:=p5) rfl c5 (by intro m; show 28 <= 1000; decide) (fun Q qq=>?_) fun m hm p6 H6 g6 c6=>?_
 ·refine ⟨_,rfl,_,_,rfl,rfl,catB (Nc.lit (by decide +kernel)) (Nc.w hb),_,rfl,_,_,rfl,rfl,catB (Nc.lit (by decide +kernel)) (Nc.w ha),_,_,rfl,rfl,catB (Nc.app (Nc.lit (by decide +kernel)) (Nc.w ha)) (Nc.lit (by decide +kernel)),_,rfl,_,_,rfl,rfl,catB (Nc.app (Nc.app (Nc.lit (by decide +kernel)) (Nc.w ha)) (Nc.lit (by decide +kernel))) (Nc.w hb),_,rfl,_,rfl,(by show 2 <= sizeLine; decide),fun pm hpm=>?_⟩
  refine ⟨pm,a,b,rfl,SqL.of upd_same,ha,hb,fun m Hm gm2 hm=>?_⟩
  refine ⟨_,_,rfl,rfl,catB (Nc.lit (by decide +kernel)) (Nc.many hm),?_⟩
  exact qq m hm Hm ((same_new hpm _).trans gm2)
 have G6:=G5.trans g6
 refine asg2_rd (fun i=>if i = 0 then a else b) [0,1] [(.cat (.lit "tell all w >abcdefghij0123456789: ") (.v 1)),(.cat (.lit "tell all abcdefghij0123456789k: ") (.v 1)),(.cat (.lit "Tell all w: ") (.v 1))] (tells7 a b m) (hv _) (by decide +kernel) rfl (by show 3 <= 1000; decide) rfl c6 (by show 31 <= 1000; decide) fun p7 H7 g7 c7=>?_
 have G7:=G6.trans g7
 refine ret2_rd (fun i=>if i = 0 then a else b) [0,1] [(.cat (.lit "tell all w:  ") (.v 1)),(.cat (.cat (.lit "tell all w: ") (.v 1)) (.lit " ")),(.cat (.lit "tell all w >s w>ws: ") (.v 1)),(.cat (.lit "tell all w s: > ") (.v 1))] (tells8 a b m) (hv _) (by decide +kernel) rfl (by show 4 <= 1000; decide) rfl c7 (by show 35 <= 1000; decide) fun p8 H8 g8 c8=>?_
 have G8:=G7.trans g8
 exact q (tellsL a b m) _ _ G8 c8 (tells_odd ha hb hm) rfl
end
end D
namespace D
open PySem L2
theorem len_seqK {X : Cx} {K : PySem.W.Frag} (hK : X.K = K) : CallR X (.builtin "len") (fun xs H Q=>∃ p ys,xs = [.ref p] /\ (SqL K H p ys ∨ SqT K H p ys) /\ Q (.int ys.length) H):=hK ▸ call_len_seq
def spSpoil : Sp:=fun vs H Q _=>∃ (x : Str) (c : Int),vs = [.str x,.int c] /\ x.length <= 100000 /\ ∀ (R : Str) (k d : Nat),cs R = (cs x).take k ++ d :: (cs x).drop k -> d ∈ cs badS -> Q (.str R) H
section
variable {P : Program} {w : World} {K : PySem.W.Frag} {mg : Str -> Option Value} {base : Heap} {f : Addr} {fd : FuncData}
abbrev NMy : List Str:=["_law_words","_law_many_here"]
theorem scMany : FnScope NMy ["_law_words","_law_many_here"] (defScope s_l_many):=⟨rfl,rfl,rfl,by decide +kernel,rfl,by decide +kernel,by decide +kernel⟩
set_option maxHeartbeats 4000000 in
theorem ok_many (F : Fun K "_law_many" "_law_many" s_l_many f fd) (T : Nm mg) : FnOk P w K mg base CX0 1 f fd ["_law_words","_law_many_here"] (spMany K):=by
 refine F.ok scMany (fun vs H Q E h=>?_) (fun cdv A outer s H vs Q E hr h=>?_)
 ·obtain ⟨l,a,b,rfl,_⟩:=h
  rfl
 obtain ⟨l,a,b,rfl,hS,ha,hb,q⟩:=h
 refine ⟨_,pss_one (ps_ret (pe_bm PySem.F.plainAttrs_str PySem.F.slot_str_join PySem.F.type_str_join mt_join pe_str (pa_cons (pe_comp NMy (defScope s_l_many) rfl (by decide +kernel) (by decide +kernel) (pi_range1 rfl T.range (pa_cons (pv 1) pa_nil)) (fun _ _ _ _ _=>pts_nil)
  (fun _ _ _ _ _=>pe_ix (r:=rIxL K) ix_list (pv 0) (pe_op op_mod (pv 2) (pe_callB (len_seqK (K:=K) rfl) rfl T.len PySem.boot_len (pa_cons (pv 0) pa_nil))) (fun _ _=>rfl))) pa_nil))),?_⟩
 have hbig:=big
 refine ⟨rfl,_,rfl,201,rfl,by decide,by decide,?_⟩
 refine comp_range (lo:=0) (n:=201) (fun i ys H'=>H' = H /\ ∃ zs : List Str,ys = zs.map V.str /\ zs.length = i /\ ∀ z ∈ zs,Wd z) (by omega) ⟨rfl,[],rfl,rfl,fun _ h=>nomatch h⟩ (fun i ys H' _ h=>by obtain ⟨_,zs,rfl,hl,_⟩:=h; rw [List.length_map,hl]; exact Nat.le_refl _) ?_ ?_
 ·rintro i ys H' hi ⟨rfl,zs,rfl,hl,hw⟩ KY hK
  refine ⟨_,rfl,_,rfl,_,rfl,l,_,rfl,.inl hS,_,_,rfl,rfl,(by show (0 : Int) < 2; decide),?_⟩
  have m0 : 0 <= ((0 : Int) + (i : Nat)) % 2:=Int.emod_nonneg _ (by decide)
  have m1 : ((0 : Int) + (i : Nat)) % 2 < 2:=Int.emod_lt_of_pos _ (by decide)
  obtain ⟨v,e1,e2⟩:=at_of (xs:=[V.str a,V.str b]) m0 m1
  have hv : ∃ z,v = .str z /\ Wd z:=by
   have:=List.mem_of_getElem? e2
   simp only [List.mem_cons,List.not_mem_nil,or_false] at this
   rcases this with rfl | rfl
   ·exact ⟨a,rfl,ha⟩
   ·exact ⟨b,rfl,hb⟩
  obtain ⟨z,rfl,hz⟩:=hv
  refine ⟨l,_,_,_,rfl,rfl,hS,e1,hK _ _ ⟨rfl,zs ++ [z],by rw [List.map_append] <;> rfl,by rw [List.length_append,hl] <;> rfl,fun y hy=>?_⟩⟩
  rcases List.mem_append.mp hy with y1 | y1
  ·exact hw y y1
  ·rw [List.mem_singleton.mp y1]; exact hz
 ·rintro ys H' ⟨rfl,zs,rfl,hl,hw⟩ r hr1
  have hm : Many (Str.join " " zs):=⟨zs,rfl,hl,hw⟩
  refine ⟨_,r,zs,rfl,rfl,.inl (SqL.of upd_same),?_,q _ _ (same_new hr1 _) hm⟩
  have:=sum_len (m:=20) (ys:=zs) fun y hy=>(hw y hy).2.1
  rw [hl] at this ⊢
  rw [show (" " : Str).length = 1 by decide +kernel]
  omega
theorem scSpoil : FnScope ["_law_line_here","_law_cell_here","_law_at"] ["_law_line_here","_law_cell_here"] (defScope s_l_spoiled):=⟨rfl,rfl,rfl,by decide +kernel,rfl,by decide +kernel,by decide +kernel⟩
set_option maxHeartbeats 4000000 in
theorem ok_spoil (F : Fun K "_law_spoiled" "_law_spoiled" s_l_spoiled f fd) (T : Nm mg) : FnOk P w K mg base CX0 1 f fd ["_law_line_here","_law_cell_here"] spSpoil:=by
 refine F.ok scSpoil (fun vs H Q E h=>?_) (fun cdv A outer s H vs Q E hr h=>?_)
 ·obtain ⟨x,c,rfl,_⟩:=h
  rfl
 obtain ⟨x,c,rfl,hx,q⟩:=h
 refine ⟨_,pss_cons (ps_set (i:=2) scSpoil.nd rfl (Or.inl rfl) (pe_op op_mod (pe_op op_fdiv (pv 1) pe_int) (pe_op op_add (pe_callB call_len_str rfl T.len PySem.boot_len (pa_cons (pv 0) pa_nil)) pe_int)))
  (pss_one (ps_ret (pe_op op_add_str (pe_op op_add_str (pe_slice sl_str (pv 0) po_none (po_some (pv 2))) (pe_ix ix_str pe_str (pe_op op_mod (pv 1) pe_int) (fun _ _=>rfl))) (pe_slice sl_str (pv 0) (po_some (pv 2)) po_none)))),?_⟩
 have hbig : 2000000 <= sizeLine:=by decide
 refine ⟨_,rfl,_,_,rfl,rfl,⟨by decide,by decide⟩,_,rfl,x,rfl,by omega,_,_,rfl,rfl,_,_,rfl,rfl,(by show (0 : Int) < _; omega),?_⟩
 dsimp only
 have m0 : 0 <= c / 26 % ((x.length : Nat) + 1):=Int.emod_nonneg _ (by omega)
 generalize c / 26 % ((x.length : Nat) + 1) = k at m0
 have n0 : 0 <= c % 26:=Int.emod_nonneg _ (by decide)
 have n1 : c % 26 < ((cs badS).length : Nat):=by rw [show (cs badS).length = 26 by decide +kernel]; exact Int.emod_lt_of_pos _ (by decide)
 obtain ⟨d,e1,e2⟩:=at_of (xs:=cs badS) n0 n1
 have hd : d ∈ cs badS:=List.mem_of_getElem? e2
 have l1 : (⟨(cutC x none (some k)).toArray⟩ : Str).length <= x.length:=by
  rw [len_mk,cut_to _ m0,List.length_take,cs_len]
  omega
 have l2 : (⟨(cutC x (some k) none).toArray⟩ : Str).length <= x.length:=by
  rw [len_mk,cut_from _ m0,List.length_drop,cs_len]
  omega
 have l3 : (⟨#[d]⟩ : Str).length = 1:=rfl
 refine ⟨_,rfl,_,rfl,_,rfl,x,rfl,by omega,_,rfl,_,_,rfl,rfl,(by show (0 : Int) < 26; decide),badS,_,d,rfl,rfl,(by decide +kernel),e1,_,_,rfl,rfl,by omega,_,rfl,_,rfl,_,rfl,x,rfl,by omega,_,_,rfl,rfl,(by rw [len_app]; omega),q _ k.toNat d ?_ hd⟩
 rw [cs_app,cs_app,cs_mk,cs_mk,cut_to _ m0,cut_from _ m0,List.append_assoc] <;> rfl
end
end D
namespace D
open PySem L2
def spOdd (K : PySem.W.Frag) : Sp:=fun vs H Q _=>∃ (sc : Addr) (ns : List Int) (at_ : Int) (a : Addr) (xs : List V) (L : List (Str × Str)) (b : Nat),vs = [.ref sc,.int at_,.ref a] /\ SqL K H sc (ns.map V.int) /\ ns.length <= 63 /\ 0 <= at_ /\ at_ <= 100 /\ H a = some (.lst xs) /\ prsR H L xs /\ L ≠ [] /\ L.length <= 190 /\ (∀ l ∈ L,Nc l.2 b 20) /\ 5000 <= b /\ b <= 5500 /\
 ∀ R H',Same H H' -> OddRow R -> Nc R (b + 500) 20 -> Q (.str R) H'
theorem seqand_rd {c1 c2 : L2.TT} {t u : TS} {D : Ends} {σ : St} {H : Hp} (b1 b2 : Bool) (h1 : ∀ Q : Bool -> Hp -> Prop,Q b1 H -> c1 σ H Q) (h2 : ∀ Q : Bool -> Hp -> Prop,Q b2 H -> c2 σ H Q) (ht : b1 = true -> b2 = true -> t { D with nx:=u D } σ H) (hn : ¬ (b1 = true /\ b2 = true) -> u D σ H) : tSeq (tIfS (tAnd c1 c2) t tNext) u D σ H:=by
 show c1 σ H fun b H1=>if b = true then c2 σ H1 (fun b H1=>if b = true then t { D with nx:=u D } σ H1 else u D σ H1) else (if false = true then t { D with nx:=u D } σ H1 else u D σ H1)
 refine h1 _ ?_
 cases b1 with
 | false =>
  rw [if_neg (by decide),if_neg (by decide)]
  exact hn fun z=>by cases z.1
 | true =>
  rw [if_pos rfl]
  refine h2 _ ?_
  cases b2 with
  | false =>
   rw [if_neg (by decide)]
   exact hn fun z=>by cases z.2
  | true =>
   rw [if_pos rfl]
   exact ht rfl rfl
theorem nx_mk {X : St -> Hp -> Prop} {r : VK} {σ : St} {H : Hp} (h : X σ H) : tNext { nx:=X,rt:=r } σ H:=h
theorem pick {ws : List Str} (hl : ws.length = 10) (hd : ∀ x ∈ ws,Wd x) (k : Int) : ∃ z,atI (ws.map V.str) (k % 10) = some (.str z) /\ Wd z:=by
 have m0 : 0 <= k % 10:=Int.emod_nonneg _ (by decide)
 have m1 : k % 10 < ((ws.map V.str).length : Nat):=by rw [List.length_map,hl]; exact Int.emod_lt_of_pos _ (by decide)
 obtain ⟨v,e1,e2⟩:=at_of m0 m1
 rw [List.getElem?_map] at e2
 cases hz : ws[(k % 10).toNat]? with
 | none=>rw [hz] at e2; cases e2
 | some z =>
  rw [hz] at e2
  cases e2
  exact ⟨z,e1,hd z (List.mem_of_getElem? hz)⟩
theorem in_one {x : Str} {c : Nat} (h : (!(Builtin.Str.occurrences x (one c) 0 x.length 1).isEmpty) = true) : c ∈ cs x:=by
 rw [StrLaws.found_one] at h
 exact of_decide_eq_true h
theorem sum_join : ∀ (ys : List Str),(ys.map (·.length)).sum + ys.length <= (Str.join " " ys).length + 1
 | []=>by show 0 + 0 <= _; omega
 | [y]=>by show y.length + 0 + 1 <= y.length + 1; omega
 | y :: w :: r=>by
  have ih:=sum_join (w :: r)
  have e : (Str.join " " (y :: w :: r)).length = y.length + 1 + (Str.join " " (w :: r)).length:=by
   rw [<- cs_len,cs_joinM,List.length_append,List.length_append,cs_len,cs_len,cs_len,show (" " : Str).length = 1 by decide +kernel]
   omega
  rw [e]
  show y.length + ((w :: r).map (·.length)).sum + ((w :: r).length + 1) <= _
  omega
theorem dbl_rd {x : Str} {l : Nat} {ps : List Str} {k : Int} (hx : Nc x l 20) (hl : l <= 5500) (e : Txt.split x " " = ps) (k1 : 1 <= k) (k2 : k < (ps.length : Nat)) : cutV (ps.map V.str) none (some k) = (ps.take k.toNat).map V.str /\ cutV (ps.map V.str) (some k) none = (ps.drop k.toNat).map V.str /\ ((ps.take k.toNat).map (·.length)).sum + (ps.take k.toNat).length * (" " : Str).length <= 16777216 /\ ((ps.drop k.toNat).map (·.length)).sum + (ps.drop k.toNat).length * (" " : Str).length <= 16777216 /\ (Str.join " " (ps.take k.toNat)).length <= 6000 /\ (Str.join " " (ps.drop k.toNat)).length <= 6000 /\ OddRow (Str.join " " (ps.take k.toNat) ++ "  " ++ Str.join " " (ps.drop k.toNat)) /\ Nc (Str.join " " (ps.take k.toNat) ++ "  " ++ Str.join " " (ps.drop k.toNat)) (l + 1) 20:=by
 have ex : ps = ps.take k.toNat ++ ps.drop k.toNat:=(List.take_append_drop _ _).symm
 have n1 : ps.take k.toNat ≠ []:=fun z=>by
  have:=congrArg List.length z
  rw [List.length_take,List.length_nil] at this
  omega
 have n2 : ps.drop k.toNat ≠ []:=fun z=>by
  have:=congrArg List.length z
  rw [List.length_drop,List.length_nil] at this
  omega
 have hd:=dbl_odd hx (e.trans ex) n1 n2
 have hj:=StrLaws.join_split x " "
 rw [e] at hj
 have hs:=sum_join ps
 rw [hj] at hs
 have hj2:=join_two n1 n2
 rw [<- ex,hj] at hj2
 have hjl:=congrArg List.length hj2
 rw [List.length_append,List.length_cons,cs_len,cs_len,cs_len] at hjl
 have hxl:=hx.len
 have es:=congrArg (fun z : List Str=>(z.map (·.length)).sum + z.length) ex
 rw [List.map_append,List.sum_append,List.length_append] at es
 rw [show (" " : Str).length = 1 by decide +kernel,Nat.mul_one,Nat.mul_one]
 refine ⟨?_,?_,by omega,by omega,by omega,by omega,hd.1,hd.2⟩
 ·rw [cutV_toM _ (by omega),List.map_take]
 ·rw [cutV_fromM _ (by omega),List.map_drop]
section
variable {P : Program} {w : World} {K : PySem.W.Frag} {mg : Str -> Option Value} {base : Heap} {f : Addr} {fd : FuncData}
theorem scOdd : FnScope ["_law_script","_law_at","_law_lines_here","_law_menu_here","_law_cell_here","_law_a","_law_b","_law_line_here","_law_pieces","_law_many_here","_law_odd_here"] ["_law_script","_law_at","_law_lines_here"] (defScope s_l_odd):=⟨rfl,rfl,rfl,by decide +kernel,rfl,by decide +kernel,by decide +kernel⟩
set_option maxHeartbeats 16000000 in
theorem ok_odd (F : Fun K "_law_odd" "_law_odd" s_l_odd f fd) (T : Nm mg) (GC : Def P w K mg base CX0 1 "_law_cell" ["_law_script","_law_k"] (spCell K)) (GM : Def P w K mg base CX0 2 "_law_menu" ["_law_script"] (spMenu K)) (GW : Def P w K mg base CX0 1 "_law_plain_words" ["_law_menu_here","_law_cell_here"] spPlain)
  (GS : Def P w K mg base CX0 1 "_law_spoiled" ["_law_line_here","_law_cell_here"] spSpoil) (G1 : Def P w K mg base CX0 2 "_law_odd_says" ["_law_a","_law_b"] (spOdds 32)) (G2 : Def P w K mg base CX0 2 "_law_odd_tells" ["_law_a","_law_b"] (spOdds 35)) : FnOk P w K mg base CX0 3 f fd ["_law_script","_law_at","_law_lines_here"] (spOdd K):=by
 refine F.ok scOdd (fun vs H Q E h=>?_) (fun cdv A outer s H vs Q E hr h=>?_)
 ·obtain ⟨sc,ns,at_,a,xs,L,b,rfl,_⟩:=h
  rfl
 obtain ⟨sc,ns,at_,a,xs,L,b,rfl,hS,h63,t0,t1,ha,hL,hne,h190,hN,hb5,hb6,q⟩:=h
 refine ⟨_,pss_cons (ps_set (i:=3) scOdd.nd rfl (Or.inl rfl) (pe_def GW (hr.mono (by decide)) (pa_cons (pe_def GM hr (pa_cons (pv 0) pa_nil)) (pa_cons (pe_op op_fdiv (pe_def GC (hr.mono (by decide)) (pa_cons (pv 0) (pa_cons pe_int pa_nil))) pe_int) pa_nil))))
  (pss_cons (ps_set (i:=4) scOdd.nd rfl (Or.inl rfl) (pe_def GC (hr.mono (by decide)) (pa_cons (pv 0) (pa_cons (pv 1) pa_nil))))
  (pss_cons (ps_set (i:=5) scOdd.nd rfl (Or.inl rfl) (pe_ix ix_list (pv 3) (pe_op op_mod (pe_op op_fdiv (pv 4) pe_int) pe_int) (fun _ _=>rfl)))
  (pss_cons (ps_set (i:=6) scOdd.nd rfl (Or.inl rfl) (pe_ix ix_list (pv 3) (pe_op op_mod (pe_op op_fdiv (pv 4) pe_int) pe_int) (fun _ _=>rfl)))
  (pss_cons (ps_set (i:=7) scOdd.nd rfl (Or.inl rfl) (pe_ix ix_tup (pe_ix ix_list (pv 2) (pe_op op_mod (pe_op op_fdiv (pv 4) pe_int) (pe_callB call_len_seq rfl T.len PySem.boot_len (pa_cons (pv 2) pa_nil))) (fun _ _=>rfl)) pe_int (fun _ _=>rfl)))
  (pss_cons (ps_if (pt_cmpR op_eq (pe_op op_mod (pv 4) pe_int) pe_int (nomark _)) (pss_one (ps_ret (pe_def GS (hr.mono (by decide)) (pa_cons (pv 7) (pa_cons (pe_op op_fdiv (pv 4) pe_int) pa_nil))))) pss_nil)
  (pss_cons (ps_if (PW.pt (pw_and (pt_cmpR op_eq (pe_op op_mod (pv 4) pe_int) pe_int (nomark _)) (pw_and1 (pt_cmpR op_in_str pe_str (pv 7) (by with_unfolding_all rfl)))))
   (pss_cons (ps_set (i:=8) scOdd.nd rfl (Or.inl rfl) (pe_bm PySem.F.plainAttrs_str PySem.F.slot_str_split PySem.F.type_str_split mt_split (pv 7) (pa_cons pe_str pa_nil)))
   (pss_cons (ps_set (i:=9) scOdd.nd rfl (Or.inl rfl) (pe_op op_add pe_int (pe_op op_mod (pe_op op_fdiv (pv 4) pe_int) (pe_op op_sub (pe_callB call_len_seq rfl T.len PySem.boot_len (pa_cons (pv 8) pa_nil)) pe_int))))
   (pss_one (ps_ret (pe_op op_add_str (pe_op op_add_str (pe_bm PySem.F.plainAttrs_str PySem.F.slot_str_join PySem.F.type_str_join mt_join pe_str (pa_cons (pe_slice sl_list (pv 8) po_none (po_some (pv 9))) pa_nil)) pe_str) (pe_bm PySem.F.plainAttrs_str PySem.F.slot_str_join PySem.F.type_str_join mt_join pe_str (pa_cons (pe_slice sl_list (pv 8) (po_some (pv 9)) po_none) pa_nil))))))) pss_nil)
  (pss_cons (ps_ifp (pwp_and (pt_cmpR op_eq (pe_op op_mod (pv 4) pe_int) pe_int (nomark _)) (pwp_and1 (ptp_in 7))) (psp_repl 7 5) pss_nil)
  (pss_cons (ps_set (i:=10) scOdd.nd rfl (Or.inl rfl) (pe_op op_cat (pe_def G1 hr (pa_cons (pv 5) (pa_cons (pv 6) pa_nil))) (pe_def G2 hr (pa_cons (pv 5) (pa_cons (pv 6) pa_nil)))))
  (pss_one (ps_ret (pe_ix ix_list (pv 10) (pe_op op_mod (pe_op op_fdiv (pv 4) pe_int) (pe_callB call_len_seq rfl T.len PySem.boot_len (pa_cons (pv 10) pa_nil))) (fun _ _=>rfl)))))))))))),?_⟩
 have hbig : 2000000 <= sizeLine:=by decide
 have hlen:=paired_lenM hL
 have hpos : 1 <= L.length:=by
  cases L with
  | nil=>exact absurd rfl hne
  | cons _ _=>rw [List.length_cons]; omega
 refine ⟨_,rfl,sc,ns,rfl,hS,h63,fun ws0 me H00 g00 hme0 fme hwl0 hwd0=>?_⟩
 refine ⟨_,rfl,sc,ns,2,rfl,g00.seq hS,h63,by decide,by decide,_,_,rfl,rfl,⟨by decide,by decide⟩,me,ws0,_,rfl,hme0,hwl0,hwd0,fun ws H0 hme kp hwl hwd=>?_⟩
 have g0 : Same H H0:=fun b o e=>kp b o (ne_of_none e fme) (g00 _ _ e)
 clear kp g00 hme0 fme hwl0 hwd0
 refine ⟨_,rfl,_,rfl,sc,ns,at_,rfl,g0.seq hS,h63,t0,by omega,?_⟩
 generalize cellZ ns at_ = c
 obtain ⟨va,ea,wa⟩:=pick hwl hwd (c / 7)
 obtain ⟨vb,eb,wb⟩:=pick hwl hwd (c / 70)
 refine ⟨_,rfl,_,rfl,_,_,rfl,rfl,⟨by decide,by decide⟩,_,_,rfl,rfl,(by show (0 : Int) < 10; decide),me,_,_,_,rfl,rfl,SqL.of hme,ea,?_⟩
 refine ⟨_,rfl,_,rfl,_,_,rfl,rfl,⟨by decide,by decide⟩,_,_,rfl,rfl,(by show (0 : Int) < 10; decide),me,_,_,_,rfl,rfl,SqL.of hme,eb,?_⟩
 have ha0:=g0 _ _ ha
 have m0 : 0 <= c / 11 % ((xs.length : Nat) : Int):=Int.emod_nonneg _ (by omega)
 have m1 : c / 11 % ((xs.length : Nat) : Int) < (xs.length : Nat):=Int.emod_lt_of_pos _ (by omega)
 obtain ⟨v,e1,e2⟩:=at_of m0 m1
 obtain ⟨l,hl,p,ep,hp⟩:=paired_get (hL.mono g0.t) e2
 subst ep
 have hlm : l ∈ L:=List.mem_of_getElem? hl
 have hNl:=hN l hlm
 refine ⟨_,rfl,_,rfl,_,_,rfl,rfl,⟨by decide,by decide⟩,_,rfl,a,_,rfl,.inl (SqL.of ha0),_,_,rfl,rfl,(by show (0 : Int) < _; omega),a,_,_,_,rfl,rfl,SqL.of ha0,e1,p,_,_,_,rfl,rfl,SqT.of hp,atI_nat (j:=1) (v:=V.str l.2) rfl,?_⟩
 obtain ⟨lk,x⟩:=l
 have hNl : Nc x b 20:=hNl
 have hxl:=hNl.len
 show tSeq _ _ _ [some (V.ref sc),some (V.int at_),some (V.ref a),some (V.ref me),some (V.int c),some (V.str va),some (V.str vb),some (V.str x),none,none,none] H0
 refine ⟨_,rfl,_,_,rfl,rfl,(by show (0 : Int) < 4; decide),rfl,_,rfl,?_⟩
 refine ite2 (fun _=>?_) (fun _=>?_)
 ·refine ⟨_,rfl,_,rfl,_,_,rfl,rfl,⟨by decide,by decide⟩,x,_,rfl,by omega,fun R k d e hd=>?_⟩
  obtain ⟨s1,s2⟩:=spoil_odd hNl e hd
  exact q R _ g0 s1 (s2.le (by omega) (by decide))
 refine nx_mk ?_
 refine seqand_rd (decide (V.int (c % 4) = V.int 1)) (!(Builtin.Str.occurrences x (one 32) 0 x.length 1).isEmpty) (fun Q q=>⟨_,rfl,_,_,rfl,rfl,(by show (0 : Int) < 4; decide),rfl,_,rfl,q⟩) (fun Q q=>⟨_,rfl,one 32,x,rfl,rfl,_,rfl,q⟩) (fun _ z=>?_) (fun _=>?_)
 ·have hm:=in_one z
  have hsf:=StrLaws.split_free x 32
  have hsj:=StrLaws.join_split x " "
  have hs2 : 2 <= (Txt.split x " ").length:=by
   have n0:=split_ne x " "
   match e : Txt.split x " ",n0 with
   | [],n0=>exact absurd rfl n0
   | [y],_ =>
    have hy : 32 ∉ cs y:=hsf y (by show y ∈ Txt.split x " "; rw [e]; exact List.mem_cons_self)
    rw [e] at hsj
    have : y = x:=hsj
    rw [this] at hy
    exact absurd hm hy
   | _ :: _ :: r,_=>rw [List.length_cons,List.length_cons]; omega
  have hsc:=split_count x " "
  refine ⟨_,rfl,rfl,x," ",rfl,rfl,by decide +kernel,by omega,fun p1 hp1=>?_⟩
  have g1:=same_new hp1 (.lst ((Txt.split x " ").map V.str))
  have e1 : upd H0 p1 (.lst ((Txt.split x " ").map V.str)) p1 = some (.lst ((Txt.split x " ").map V.str)):=upd_same
  have hdb:=fun (k : Int)=>dbl_rd (k:=k) hNl (by omega) rfl
  generalize Txt.split x " " = ps at g1 e1 hs2 hsc hdb ⊢
  generalize upd H0 p1 (.lst (ps.map V.str)) = H1 at g1 e1 ⊢
  have el : (ps.map V.str).length = ps.length:=List.length_map _
  refine ⟨_,rfl,_,_,rfl,rfl,⟨by decide,by decide⟩,_,rfl,p1,_,rfl,.inl (SqL.of e1),_,_,rfl,rfl,_,_,rfl,rfl,(by show (0 : Int) < _; rw [el]; omega),_,_,rfl,rfl,?_⟩
  dsimp only
  rw [el]
  have n0 : 0 <= c / 4 % ((ps.length : Nat) - 1 : Int):=Int.emod_nonneg _ (by omega)
  have n1 : c / 4 % ((ps.length : Nat) - 1 : Int) < (ps.length : Nat) - 1:=Int.emod_lt_of_pos _ (by omega)
  generalize hk : 1 + c / 4 % ((ps.length : Nat) - 1 : Int) = k
  have k1 : 1 <= k:=by omega
  have k2 : k < (ps.length : Nat):=by omega
  clear hk n0 n1
  obtain ⟨d1,d2,d3,d4,d5,d6,d7,d8⟩:=hdb k k1 k2
  generalize ps.take k.toNat = A at d1 d2 d3 d4 d5 d6 d7 d8
  generalize ps.drop k.toNat = B at d1 d2 d3 d4 d5 d6 d7 d8
  refine ⟨rfl,_,rfl,_,rfl,_,rfl,p1,_,rfl,SqL.of e1,fun p2 hp2=>?_⟩
  rw [d1]
  have e2:=(same_new hp2 (.lst (A.map V.str))) _ _ e1
  refine ⟨" ",p2,A,rfl,rfl,.inl (SqL.of upd_same),d3,?_⟩
  refine ⟨_,_,rfl,rfl,(by rw [show ("  " : Str).length = 2 by decide +kernel]; omega),?_⟩
  refine ⟨rfl,_,rfl,_,rfl,_,rfl,p1,_,rfl,SqL.of e2,fun p3 hp3=>?_⟩
  rw [d2]
  refine ⟨" ",p3,B,rfl,rfl,.inl (SqL.of upd_same),d4,_,_,rfl,rfl,(by rw [<- cs_len,cs_app,List.length_append,cs_len,cs_len,show ("  " : Str).length = 2 by decide +kernel]; omega),?_⟩
  exact q _ _ (((g0.trans g1).trans (same_new hp2 _)).trans (same_new hp3 _)) d7 (d8.le (by omega) (by decide))
 refine seqand_rd (decide (V.int (c % 4) = V.int 2)) (!(Builtin.Str.occurrences x (one 62) 0 x.length 1).isEmpty) (fun Q q=>⟨_,rfl,_,_,rfl,rfl,(by show (0 : Int) < 4; decide),rfl,_,rfl,q⟩) (fun Q q=>⟨_,rfl,one 62,x,rfl,rfl,_,rfl,q⟩) (fun _ z=>?_) (fun _=>?_)
 ·obtain ⟨s1,s2⟩:=repl_odd hNl wa (in_one z)
  exact ⟨x,va,rfl,rfl,wa.1,wa.2.1,by omega,q _ _ g0 s1 (s2.le (by omega) (by decide))⟩
 refine ⟨_,rfl,_,rfl,va,vb,rfl,wa,wb,fun X1 r1 H1 g1 hr1 o1 l1=>?_⟩
 refine ⟨_,rfl,_,rfl,va,vb,rfl,wa,wb,fun X2 r2 H2 g2 hr2 o2 l2=>?_⟩
 refine cat_rd (g2 _ _ hr1) hr2 (by omega) fun r3 H3 g3 hr3=>?_
 have lz : ((X1 ++ X2).map V.str).length = 67:=by rw [List.length_map,List.length_append,l1,l2]
 have oz : ∀ x ∈ X1 ++ X2,OddN x:=fun x hx=>(List.mem_append.mp hx).elim (o1 x) (o2 x)
 generalize X1 ++ X2 = X3 at hr3 lz oz
 have n0 : 0 <= c / 4 % ((67 : Nat) : Int):=Int.emod_nonneg _ (by decide)
 have n1 : c / 4 % ((67 : Nat) : Int) < ((X3.map V.str).length : Nat):=by rw [lz]; exact Int.emod_lt_of_pos _ (by decide)
 obtain ⟨v3,e3,e4⟩:=at_of n0 n1
 rw [List.getElem?_map] at e4
 cases hz : X3[(c / 4 % ((67 : Nat) : Int)).toNat]? with
 | none=>rw [hz] at e4; cases e4
 | some R =>
  rw [hz] at e4
  cases e4
  obtain ⟨f1,f2⟩:=oz R (List.mem_of_getElem? hz)
  rw [<- lz] at e3
  refine ⟨_,rfl,_,rfl,_,_,rfl,rfl,⟨by decide,by decide⟩,_,rfl,r3,_,rfl,.inl (SqL.of hr3),_,_,rfl,rfl,(by show (0 : Int) < _; rw [lz]; decide),r3,_,_,_,rfl,rfl,SqL.of hr3,e3,?_⟩
  exact q R _ (((g0.trans g1).trans g2).trans g3) f1 (f2.le (by omega) (by decide))
end
end D
namespace D
open PySem L2
theorem paired_take {α β : Type} {F : α -> β -> Prop} : ∀ {l : List α} {m : List β},Paired F l m -> ∀ k,Paired F (l.take k) (m.take k)
 | _,_,_,0=>by rw [List.take_zero,List.take_zero]; exact .nil
 | _,_,.nil,_ + 1=>by rw [List.take_nil,List.take_nil]; exact .nil
 | _,_,.cons h r,k + 1=>by rw [List.take_succ_cons,List.take_succ_cons]; exact .cons h (paired_take r k)
theorem paired_dropN {α β : Type} {F : α -> β -> Prop} : ∀ {l : List α} {m : List β},Paired F l m -> ∀ k,Paired F (l.drop k) (m.drop k)
 | _,_,h,0=>by rw [List.drop_zero,List.drop_zero]; exact h
 | _,_,.nil,_ + 1=>by rw [List.drop_nil,List.drop_nil]; exact .nil
 | _,_,.cons h r,k + 1=>by rw [List.drop_succ_cons,List.drop_succ_cons]; exact paired_dropN r k
theorem paired_rep {α β : Type} {F : α -> β -> Prop} {l : List α} {m : List β} (h : Paired F l m) : ∀ k,Paired F (List.replicate k l).flatten (List.replicate k m).flatten
 | 0=>by simp only [List.replicate_zero,List.flatten_nil]; exact .nil
 | k + 1=>by rw [List.replicate_succ,List.replicate_succ,List.flatten_cons,List.flatten_cons]; exact paired_app h (paired_rep h k)
def LsR (H : Hp) (L : List (Str × Str)) (p : Addr) : Prop:=∃ xs,H p = some (.lst xs) /\ prsR H L xs
theorem LsR.mono {H H' : Hp} {L : List (Str × Str)} {p : Addr} (h : LsR H L p) (g : Same H H') : LsR H' L p:=let ⟨xs,e,r⟩:=h; ⟨xs,g _ _ e,r.mono g.t⟩
theorem cat_ls {H : Hp} {Q : VK} {l b : Addr} {L M : List (Str × Str)} (h1 : LsR H L l) (h2 : LsR H M b) (hz : L.length + M.length <= 1000) (q : ∀ p H',Same H H' -> LsR H' (L ++ M) p -> Q (.ref p) H') : rCat (.ref l) (.ref b) H Q:=by
 obtain ⟨xs,e1,r1⟩:=h1
 obtain ⟨ys,e2,r2⟩:=h2
 refine ⟨l,b,_,_,rfl,rfl,e1,e2,?_,fun p hp=>q p _ (same_new hp _) ⟨_,upd_same,?_⟩⟩
 ·rw [<- paired_lenM r1,<- paired_lenM r2]
  exact Nat.le_trans hz (by decide)
 ·exact paired_app (r1.mono (same_new hp _).t) (r2.mono (same_new hp _).t)
theorem rep_ls {H : Hp} {Q : VK} {l : Addr} {L : List (Str × Str)} {k : Int} (h1 : LsR H L l) (k0 : 0 <= k) (k1 : k <= 20) (hz : L.length <= 1) (q : ∀ p H',Same H H' -> LsR H' (List.replicate k.toNat L).flatten p -> Q (.ref p) H') : rRep (.ref l) (.int k) H Q:=by
 obtain ⟨xs,e1,r1⟩:=h1
 have hx:=paired_lenM r1
 refine ⟨l,k,xs,rfl,rfl,e1,by omega,by omega,?_,fun p hp=>q p _ (same_new hp _) ⟨_,upd_same,paired_rep (r1.mono (same_new hp _).t) _⟩⟩
 refine Nat.le_trans (Nat.mul_le_mul (show xs.length <= 1 by omega) (show k.toNat <= 20 by omega)) (by decide)
theorem cut_ls {K : PySem.W.Frag} {H : Hp} {Q : VK} {l : Addr} {L : List (Str × Str)} {k : Int} (h1 : LsR H L l) (k0 : 0 <= k) (q : ∀ p H',Same H H' -> LsR H' (L.take k.toNat) p -> Q (.ref p) H') : rSlL K (.ref l) none (some k) H Q:=by
 obtain ⟨xs,e1,r1⟩:=h1
 refine ⟨l,xs,rfl,SqL.of e1,fun p hp=>q p _ (same_new hp _) ⟨_,upd_same,?_⟩⟩
 rw [cutV_toM _ k0]
 exact paired_take (r1.mono (same_new hp _).t) _
theorem end_ls {K : PySem.W.Frag} {H : Hp} {Q : VK} {l : Addr} {L : List (Str × Str)} {k : Int} (h1 : LsR H L l) (k0 : 0 <= k) (q : ∀ p H',Same H H' -> LsR H' (L.drop k.toNat) p -> Q (.ref p) H') : rSlL K (.ref l) (some k) none H Q:=by
 obtain ⟨xs,e1,r1⟩:=h1
 refine ⟨l,xs,rfl,SqL.of e1,fun p hp=>q p _ (same_new hp _) ⟨_,upd_same,?_⟩⟩
 rw [cutV_fromM _ k0]
 exact paired_dropN (r1.mono (same_new hp _).t) _
theorem oneT_ls {H : Hp} {Q : VK} {σ : St} {te : TE} {a : Str} (Φ : Str -> Prop) (ht : ∀ Q' : VK,(∀ R H',Same H H' -> Φ R -> Q' (.str R) H') -> te σ H Q') (q : ∀ R p H',Φ R -> Same H H' -> LsR H' [(a,R)] p -> Q (.ref p) H') : tLst (tCons (tTup (tCons (tC (.str a)) (tCons te tNil))) tNil) σ H Q:=by
 refine ht _ fun R H1 g1 hR=>⟨by show 2 <= sizeLine; decide,fun p hp=>⟨by show 1 <= sizeLine; decide,fun r hr=>q R r _ hR ((g1.trans (same_new hp _)).trans (same_new hr _)) ⟨_,upd_same,.cons ?_ .nil⟩⟩⟩
 exact ⟨p,rfl,(same_new hr _) _ _ upd_same⟩
theorem one_ls {H : Hp} {Q : VK} {σ : St} {a x : Str} (q : ∀ p H',Same H H' -> LsR H' [(a,x)] p -> Q (.ref p) H') : tLst (tCons (tTup (tCons (tC (.str a)) (tCons (tC (.str x)) tNil))) tNil) σ H Q :=
 oneT_ls (fun R=>R = x) (fun Q' h=>h x H (Same.refl _) rfl) fun R p H' e g h=>q p H' g (e ▸ h)
def RowsOk (b : Nat) (L : List (Str × Str)) : Prop:=∀ l ∈ L,GoodL l /\ Nc l.2 b 20
theorem RowsOk.le {b b' : Nat} {L : List (Str × Str)} (h : RowsOk b L) (hb : b <= b') : RowsOk b' L:=fun l hl=>⟨(h l hl).1,(h l hl).2.le hb (Nat.le_refl _)⟩
theorem RowsOk.app {b : Nat} {L M : List (Str × Str)} (h : RowsOk b L) (h' : RowsOk b M) : RowsOk b (L ++ M):=fun l hl=>(List.mem_append.mp hl).elim (h l) (h' l)
theorem RowsOk.take {b : Nat} {L : List (Str × Str)} (h : RowsOk b L) (k : Nat) : RowsOk b (L.take k):=fun l hl=>h l (List.mem_of_mem_take hl)
theorem RowsOk.drop {b : Nat} {L : List (Str × Str)} (h : RowsOk b L) (k : Nat) : RowsOk b (L.drop k):=fun l hl=>h l (List.mem_of_mem_drop hl)
theorem RowsOk.rep {b : Nat} {L : List (Str × Str)} (h : RowsOk b L) (k : Nat) : RowsOk b (List.replicate k L).flatten:=fun l hl=>by
 obtain ⟨M,hM,z⟩:=List.mem_flatten.mp hl
 rw [List.eq_of_mem_replicate hM] at z
 exact h l z
theorem RowsOk.one {b : Nat} {l : Str × Str} (h : GoodL l) (h' : Nc l.2 b 20) : RowsOk b [l]:=fun x hx=>by
 rw [List.mem_singleton.mp hx]
 exact ⟨h,h'⟩
theorem ok_part {b : Nat} (hb : 5000 <= b) : RowsOk b [("part","part")]:=.one (.part) ((Nc.lit (by decide +kernel)).le (by omega) (by decide))
theorem ok_end {b : Nat} (hb : 5000 <= b) : RowsOk b [("end","end")]:=.one (.done) ((Nc.lit (by decide +kernel)).le (by omega) (by decide))
def spChanged (K : PySem.W.Frag) : Sp:=fun vs H Q _=>∃ (sc : Addr) (ns : List Int) (at_ : Int) (a : Addr) (L : List (Str × Str)) (b : Nat),vs = [.ref sc,.int at_,.ref a] /\ SqL K H sc (ns.map V.int) /\ ns.length <= 63 /\ 0 <= at_ /\ at_ <= 90 /\ LsR H L a /\ RowsOk b L /\ L.length <= 150 /\ 5000 <= b /\ b <= 5500 /\
 ∀ L' p H',Same H H' -> LsR H' L' p -> RowsOk (b + 500) L' -> L'.length <= L.length + 18 -> Q (.ref p) H'
end D
namespace D
open PySem L2
theorem np_rd {σ : St} {H : Hp} {Q : Option Int -> Hp -> Prop} (h : Q none H) : tNoPart σ H Q:=h
theorem gn_rd {X : St -> Hp -> Prop} {r : VK} {i : Nat} {x : V} {σ : St} {H : Hp} (h : X (σ.set i (some x)) H) : gName i x σ H (Ends.nx { nx:=X,rt:=r }):=h
section
variable {P : Program} {w : World} {K : PySem.W.Frag} {mg : Str -> Option Value} {base : Heap} {f : Addr} {fd : FuncData}
theorem scChg : FnScope ["_law_script","_law_at","_law_lines_here","_law_cell_here","_law_place","_law_ahead","_law_behind","_law_many_here"] ["_law_script","_law_at","_law_lines_here"] (defScope s_l_changed):=⟨rfl,rfl,rfl,by decide +kernel,rfl,by decide +kernel,by decide +kernel⟩
set_option maxHeartbeats 16000000 in
theorem ok_changed (F : Fun K "_law_changed" "_law_changed" s_l_changed f fd) (T : Nm mg) (GC : Def P w K mg base CX0 1 "_law_cell" ["_law_script","_law_k"] (spCell K)) (GO : Def P w K mg base CX0 3 "_law_odd" ["_law_script","_law_at","_law_lines_here"] (spOdd K)) : FnOk P w K mg base CX0 4 f fd ["_law_script","_law_at","_law_lines_here"] (spChanged K):=by
 refine F.ok scChg (fun vs H Q E h=>?_) (fun cdv A outer s H vs Q E hr h=>?_)
 ·obtain ⟨sc,ns,at_,a,L,b,rfl,_⟩:=h
  rfl
 obtain ⟨sc,ns,at_,a,L,b,rfl,hS,h63,t0,t1,ha,hN,h150,hb5,hb6,q⟩:=h
 refine ⟨_,pss_cons (ps_set (i:=3) scChg.nd rfl (Or.inl rfl) (pe_def GC (hr.mono (by decide)) (pa_cons (pv 0) (pa_cons (pv 1) pa_nil))))
  (pss_cons (ps_set (i:=4) scChg.nd rfl (Or.inl rfl) (pe_op op_mod (pe_op op_fdiv (pv 3) pe_int) (pe_op op_add (pe_callB call_len_seq rfl T.len PySem.boot_len (pa_cons (pv 2) pa_nil)) pe_int)))
  (pss_cons (ps_set (i:=5) scChg.nd rfl (Or.inl rfl) (pe_slice sl_list (pv 2) po_none (po_some (pv 4))))
  (pss_cons (ps_set (i:=6) scChg.nd rfl (Or.inl rfl) (pe_slice sl_list (pv 2) (po_some (pv 4)) po_none))
  (pss_cons (ps_if (PW.pt (pw_and (pt_cmpR op_lt (pe_op op_mod (pv 3) pe_int) pe_int (nomark _)) (pw_and1 (pt_cmpR op_gt (pe_callB call_len_seq rfl T.len PySem.boot_len (pa_cons (pv 2) pa_nil)) pe_int (nomark _)))))
   (pss_one (ps_ret (pe_op op_cat (pe_op op_cat (pv 5) (pe_lst (pa_cons (pe_tup (pa_cons pe_str (pa_cons (pe_def GO hr (pa_cons (pv 0) (pa_cons (pe_op op_add (pv 1) pe_int) (pa_cons (pv 2) pa_nil)))) pa_nil))) pa_nil))) (pv 6)))) pss_nil)
  (pss_cons (ps_if (pt_cmpR op_eq (pe_op op_mod (pv 3) pe_int) pe_int (nomark _))
   (pss_one (ps_ret (pe_op op_cat (pe_op op_cat (pv 5) (pe_lst (pa_cons (pe_tup (pa_cons pe_str (pa_cons pe_str pa_nil))) pa_nil))) (pv 6)))) pss_nil)
  (pss_cons (ps_if (pt_cmpR op_eq (pe_op op_mod (pv 3) pe_int) pe_int (nomark _))
   (pss_one (ps_ret (pe_op op_cat (pe_op op_cat (pv 5) (pe_lst (pa_cons (pe_tup (pa_cons pe_str (pa_cons pe_str pa_nil))) pa_nil))) (pv 6)))) pss_nil)
  (pss_cons (ps_if (pt_cmpR op_eq (pe_op op_mod (pv 3) pe_int) pe_int (nomark _))
   (pss_cons (ps_set (i:=7) scChg.nd rfl (Or.inl rfl) (pe_op op_add pe_int (pe_op op_mod (pe_def GC (hr.mono (by decide)) (pa_cons (pv 0) (pa_cons (pe_op op_add (pv 1) pe_int) pa_nil))) pe_int)))
   (pss_one (ps_ret (pe_op op_cat (pe_op op_cat (pe_op op_cat (pv 5) (pe_op op_rep (pe_lst (pa_cons (pe_tup (pa_cons pe_str (pa_cons pe_str pa_nil))) pa_nil)) (pv 7))) (pe_op op_rep (pe_lst (pa_cons (pe_tup (pa_cons pe_str (pa_cons pe_str pa_nil))) pa_nil)) (pv 7))) (pv 6))))) pss_nil)
  (pss_cons (ps_if (pt_cmpR op_eq (pe_op op_mod (pv 3) pe_int) pe_int (nomark _))
   (pss_one (ps_ret (pe_op op_cat (pv 5) (pe_slice sl_list (pv 6) (po_some pe_int) po_none)))) pss_nil)
  (pss_one (ps_ret (pv 2)))))))))))
  ,?_⟩
 have hbig : 2000000 <= sizeLine:=by decide
 obtain ⟨xs,ha0,hx0⟩:=id ha
 have hlen:=paired_lenM hx0
 refine ⟨_,rfl,_,rfl,sc,ns,at_,rfl,hS,h63,t0,by omega,?_⟩
 generalize cellZ ns at_ = c
 refine ⟨_,rfl,_,_,rfl,rfl,⟨by decide,by decide⟩,_,rfl,a,_,rfl,.inl (SqL.of ha0),_,_,rfl,rfl,_,_,rfl,rfl,(by show (0 : Int) < _; omega),?_⟩
 dsimp only
 have m0 : 0 <= c / 8 % ((xs.length : Nat) + 1 : Int):=Int.emod_nonneg _ (by omega)
 generalize c / 8 % ((xs.length : Nat) + 1 : Int) = k at m0
 refine ⟨_,rfl,_,rfl,k,rfl,?_⟩
 refine cut_ls ha m0 fun p5 H5 g5 h5=>?_
 refine ⟨_,rfl,_,rfl,k,rfl,?_⟩
 refine np_rd ?_
 refine end_ls (ha.mono g5) m0 fun p6 H6 g6 h6=>?_
 have h5:=h5.mono g6
 have g:=g5.trans g6
 clear g5 g6
 have l5 : (L.take k.toNat).length + (L.drop k.toNat).length = L.length:=by
  rw [<- List.length_append,List.take_append_drop]
 have o5 : RowsOk b (L.take k.toNat):=hN.take _
 have o6 : RowsOk b (L.drop k.toNat):=hN.drop _
 generalize L.take k.toNat = A5 at h5 l5 o5
 generalize L.drop k.toNat = B6 at h6 l5 o6
 refine gn_rd ?_
 show tSeq _ _ _ [some (V.ref sc),some (V.int at_),some (V.ref a),some (V.int c),some (V.int k),some (V.ref p5),some (V.ref p6),none] H6
 refine seqand_rd (decide (c % 8 < 3)) (decide ((0 : Int) < ((xs.length : Nat) : Int))) (fun Q q=>⟨_,rfl,_,_,rfl,rfl,(by show (0 : Int) < 8; decide),_,_,rfl,rfl,_,rfl,q⟩) (fun Q q=>⟨_,rfl,a,_,rfl,.inl (SqL.of (g _ _ ha0)),_,_,rfl,rfl,_,rfl,q⟩) (fun _ z=>?_) (fun _=>?_)
 ·have hpos:=of_decide_eq_true z
  refine ⟨_,rfl,?_⟩
  refine oneT_ls (fun R=>OddRow R /\ Nc R (b + 500) 20) (fun Q' q'=>?_) fun R p8 H8 r8 g8 h8=>?_
  ·refine ⟨_,rfl,_,rfl,_,_,rfl,rfl,_,rfl,sc,ns,at_ + 1,a,xs,L,b,rfl,g.seq hS,h63,by omega,by omega,g _ _ ha0,hx0.mono g.t,?_,by omega,fun l hl=>(hN l hl).2,hb5,hb6,fun R H7 g7 r1 r2=>q' R H7 g7 ⟨r1,r2⟩⟩
   intro z
   rw [z] at hlen
   rw [<- hlen] at hpos
   exact absurd hpos (by decide)
  obtain ⟨r1,r2⟩:=r8
  refine cat_ls (h5.mono g8) h8 (by rw [List.length_singleton]; omega) fun p9 H9 g9 h9=>?_
  refine ⟨_,rfl,?_⟩
  refine cat_ls h9 (h6.mono (g8.trans g9)) (by rw [List.length_append,List.length_singleton]; omega) fun pa Ha ga hha=>?_
  refine q _ _ _ (((g.trans g8).trans g9).trans ga) hha (((o5.le (by omega)).app (.one (.odd R r1) r2)).app (o6.le (by omega))) ?_
  rw [List.length_append,List.length_append,List.length_singleton]
  omega
 refine ⟨_,rfl,_,_,rfl,rfl,(by show (0 : Int) < 8; decide),rfl,_,rfl,?_⟩
 refine ite2 (fun _=>?_) (fun _=>?_)
 ·refine ⟨_,rfl,?_⟩
  refine one_ls fun p8 H8 g8 h8=>?_
  refine cat_ls (h5.mono g8) h8 (by rw [List.length_singleton]; omega) fun p9 H9 g9 h9=>?_
  refine ⟨_,rfl,?_⟩
  refine cat_ls h9 (h6.mono (g8.trans g9)) (by rw [List.length_append,List.length_singleton]; omega) fun pa Ha ga hha=>?_
  refine q _ _ _ (((g.trans g8).trans g9).trans ga) hha (((o5.le (by omega)).app (ok_end (by omega))).app (o6.le (by omega))) ?_
  rw [List.length_append,List.length_append,List.length_singleton]
  omega
 refine ⟨_,rfl,_,_,rfl,rfl,(by show (0 : Int) < 8; decide),rfl,_,rfl,?_⟩
 refine ite2 (fun _=>?_) (fun _=>?_)
 ·refine ⟨_,rfl,?_⟩
  refine one_ls fun p8 H8 g8 h8=>?_
  refine cat_ls (h5.mono g8) h8 (by rw [List.length_singleton]; omega) fun p9 H9 g9 h9=>?_
  refine ⟨_,rfl,?_⟩
  refine cat_ls h9 (h6.mono (g8.trans g9)) (by rw [List.length_append,List.length_singleton]; omega) fun pa Ha ga hha=>?_
  refine q _ _ _ (((g.trans g8).trans g9).trans ga) hha (((o5.le (by omega)).app (ok_part (by omega))).app (o6.le (by omega))) ?_
  rw [List.length_append,List.length_append,List.length_singleton]
  omega
 refine ⟨_,rfl,_,_,rfl,rfl,(by show (0 : Int) < 8; decide),rfl,_,rfl,?_⟩
 refine ite2 (fun _=>?_) (fun _=>?_)
 ·refine ⟨_,rfl,_,rfl,_,_,rfl,rfl,sc,ns,at_ + 1,rfl,g.seq hS,h63,by omega,by omega,?_⟩
  generalize cellZ ns (at_ + 1) = d
  refine ⟨_,_,rfl,rfl,(by show (0 : Int) < 9; decide),_,_,rfl,rfl,?_⟩
  dsimp only
  have n0 : 0 <= d % 9:=Int.emod_nonneg _ (by decide)
  have n1 : d % 9 < 9:=Int.emod_lt_of_pos _ (by decide)
  generalize hj : 1 + d % 9 = j
  have j0 : 0 <= j:=by omega
  have j1 : j <= 9:=by omega
  have jn : j.toNat <= 9:=by omega
  clear hj n0 n1
  refine ⟨_,rfl,?_⟩
  refine one_ls fun p8 H8 g8 h8=>?_
  refine ⟨_,rfl,?_⟩
  refine rep_ls h8 j0 (by omega) (Nat.le_refl 1) fun p9 H9 g9 h9=>?_
  refine cat_ls (h5.mono (g8.trans g9)) h9 (by rw [len_rep,List.length_singleton]; omega) fun pa Ha ga hha=>?_
  refine one_ls fun pb Hb gb hhb=>?_
  refine ⟨_,rfl,?_⟩
  refine rep_ls hhb j0 (by omega) (Nat.le_refl 1) fun pc Hc gc hhc=>?_
  refine cat_ls (hha.mono (gb.trans gc)) hhc (by rw [List.length_append,len_rep,len_rep,List.length_singleton,List.length_singleton]; omega) fun pd Hd gd hhd=>?_
  refine ⟨_,rfl,?_⟩
  have gz:=((((g8.trans g9).trans ga).trans gb).trans gc).trans gd
  refine cat_ls hhd (h6.mono gz) (by rw [List.length_append,List.length_append,len_rep,len_rep,List.length_singleton,List.length_singleton]; omega) fun pe He ge hhe=>?_
  refine q _ _ _ ((g.trans gz).trans ge) hhe ((((o5.le (by omega)).app ((ok_part (by omega)).rep _)).app ((ok_end (by omega)).rep _)).app (o6.le (by omega))) ?_
  rw [List.length_append,List.length_append,List.length_append,len_rep,len_rep,List.length_singleton,List.length_singleton]
  omega
 refine ⟨_,rfl,_,_,rfl,rfl,(by show (0 : Int) < 8; decide),rfl,_,rfl,?_⟩
 refine ite2 (fun _=>?_) (fun _=>?_)
 ·refine ⟨_,rfl,_,rfl,_,rfl,?_⟩
  refine np_rd ?_
  refine end_ls h6 (by decide) fun p8 H8 g8 h8=>?_
  refine cat_ls (h5.mono g8) h8 (by rw [List.length_drop]; omega) fun p9 H9 g9 h9=>?_
  refine q _ _ _ ((g.trans g8).trans g9) h9 ((o5.le (by omega)).app ((o6.le (by omega)).drop _)) ?_
  rw [List.length_append,List.length_drop]
  omega
 exact ⟨_,rfl,q L a _ g (ha.mono g) (hN.le (by omega)) (by omega)⟩
end
end D
namespace D
open PySem L2
theorem nc_line {t : Th} (h : TOk t) (hn : ¬ ∃ n i,t = .part n i) : Nc (lineOf t) 5000 20:=by
 have hp:=pR_line h hn 0
 refine ⟨line_len h hn,fun d hd=>?_,?_⟩
 ·cases hg : good d with
  | true=>exact good_ok hg
  | false =>
   by_cases a : d = 32
   ·rw [a]; decide
   by_cases b : d = 58
   ·rw [b]; decide
   by_cases c : d = 62
   ·rw [c]; decide
   have:=none_bad hg a b c hd 0
   rw [this] at hp
   cases hp
 ·rcases row_cases hp with ⟨ws,hw,e⟩ | ⟨sc,ph,bs,ms,ok,e⟩
  ·have w58 : 58 ∉ cs (Str.join " " ws):=hw.free (by decide) (by decide)
   rw [e,List.count_append,List.count_cons (l:=cs _),List.count_eq_zero.mpr w58]
   decide
  ·have m58 : 58 ∉ cs (Str.join " " ms):=ok.hms.free (by decide) (by decide)
   rw [e,List.count_append,List.count_cons,List.count_cons,List.count_eq_zero.mpr ok.no58,List.count_eq_zero.mpr m58]
   decide
def kindL (x : Str) : Str × Str:=(if x = "part" ∨ x = "end" then x else "line",x)
theorem kind_line {t : Th} (h : TOk t) (hn : ¬ ∃ n i,t = .part n i) : GoodL (kindL (lineOf t)) /\ Nc (lineOf t) 5000 20:=by
 obtain ⟨a,b⟩:=line_ne h hn
 refine ⟨?_,nc_line h hn⟩
 unfold kindL
 rw [if_neg fun z=>z.elim b a]
 exact .line t h hn
theorem kind_part : GoodL (kindL "part") /\ Nc "part" 5000 20:=⟨by unfold kindL; rw [if_pos (.inl rfl)]; exact .part,(Nc.lit (by decide +kernel)).le (by decide) (by decide)⟩
theorem kind_end : GoodL (kindL "end") /\ Nc "end" 5000 20:=⟨by unfold kindL; rw [if_pos (.inr rfl)]; exact .done,(Nc.lit (by decide +kernel)).le (by decide) (by decide)⟩
theorem lines_kind : ∀ (f : F),(∀ t ∈ f.ord,TOk t) -> ∀ x ∈ linesF f,GoodL (kindL x) /\ Nc x 5000 20
 | .nil,_,_,h=>nomatch h
 | .say n ws r,ho,x,h=>by
  rcases List.mem_cons.mp h with e | e
  ·rw [e]; exact kind_line (ho _ List.mem_cons_self) (fun ⟨_,_,z⟩=>nomatch z)
  ·exact lines_kind r (fun t ht=>ho t (List.mem_cons_of_mem _ ht)) x e
 | .tell n sc ph bs ms r,ho,x,h=>by
  rcases List.mem_cons.mp h with e | e
  ·rw [e]; exact kind_line (ho _ List.mem_cons_self) (fun ⟨_,_,z⟩=>nomatch z)
  ·exact lines_kind r (fun t ht=>ho t (List.mem_cons_of_mem _ ht)) x e
 | .part n i r,ho,x,h=>by
  rcases List.mem_cons.mp h with e | e
  ·rw [e]; exact kind_part
  ·rcases List.mem_append.mp e with e | e
   ·exact lines_kind i (fun t ht=>ho t (List.mem_cons_of_mem _ (List.mem_append_left _ ht))) x e
   ·rcases List.mem_cons.mp e with e | e
    ·rw [e]; exact kind_end
    ·exact lines_kind r (fun t ht=>ho t (List.mem_cons_of_mem _ (List.mem_append_right _ ht))) x e
theorem rows_kind {zs : List Str} (h : ∀ x ∈ zs,GoodL (kindL x) /\ Nc x 5000 20) : RowsOk 5000 (zs.map kindL):=fun l hl=>by
 obtain ⟨x,hx,rfl⟩:=List.mem_map.mp hl
 exact h x hx
theorem odd_none : OddRow "":=⟨lit_none (by decide +kernel),by decide +kernel,by decide +kernel⟩
theorem ok_odd0 {b : Nat} (hb : 5000 <= b) : RowsOk b [("odd","")]:=.one (.odd "" odd_none) ((Nc.lit (by decide +kernel)).le (by omega) (by decide))
theorem RowsOk.l {b : Nat} {L : List (Str × Str)} (h : RowsOk b L) (hb : b <= 6000) (hl : L.length <= 190) : LOk L:=⟨(h.le hb),hl⟩
theorem two_ls {H : Hp} {Q : VK} {σ : St} {a x b y : Str} (q : ∀ p H',Same H H' -> LsR H' [(a,x),(b,y)] p -> Q (.ref p) H') : tLst (tCons (tTup (tCons (tC (.str a)) (tCons (tC (.str x)) tNil))) (tCons (tTup (tCons (tC (.str b)) (tCons (tC (.str y)) tNil))) tNil)) σ H Q:=by
 refine ⟨by show 2 <= sizeLine; decide,fun p hp=>⟨by show 2 <= sizeLine; decide,fun p2 hp2=>⟨by show 2 <= sizeLine; decide,fun r hr=>q r _ (((same_new hp _).trans (same_new hp2 _)).trans (same_new hr _)) ⟨_,upd_same,.cons ?_ (.cons ?_ .nil)⟩⟩⟩⟩
 ·exact ⟨p,rfl,(same_new hr _) _ _ ((same_new hp2 _) _ _ upd_same)⟩
 ·exact ⟨p2,rfl,(same_new hr _) _ _ upd_same⟩
theorem ret_two {t2 : TE} {D : Ends} {H : Hp} {σ : St} {a x b y : Str} (q : ∀ p H',Same H H' -> LsR H' [(a,x),(b,y)] p -> spRight [.ref p] H' (fun v H1=>∃ c,v = .bl c /\ if c = true then t2 σ H1 D.rt else D.rt (.bl false) H1) E0) : tRet (tAndV (tCall spRight [] E0 (tCons (tLst (tCons (tTup (tCons (tC (.str a)) (tCons (tC (.str x)) tNil))) (tCons (tTup (tCons (tC (.str b)) (tCons (tC (.str y)) tNil))) tNil))) tNil)) t2) D σ H :=
 two_ls (Q:=fun v H'=>spRight [v] H' (fun v H1=>∃ c,v = .bl c /\ if c = true then t2 σ H1 D.rt else D.rt (.bl false) H1) E0) fun p H' g h=>q p H' g h
def spLaw (K : PySem.W.Frag) : Sp:=fun vs H Q _=>∃ (a : Addr) (ns : List Int),vs = [.ref a] /\ SqL K H a (ns.map V.int) /\ ns.length <= 63 /\ ∀ H',Q (.bl true) H'
section
variable {P : Program} {w : World} {K : PySem.W.Frag} {mg : Str -> Option Value} {base : Heap} {f : Addr} {fd : FuncData}
theorem scLaw : FnScope ["_law_script","_law_lines_here","_law_line_here","_law_kind","_law_changed_here"] ["_law_script"] (defScope s_law):=⟨rfl,rfl,rfl,by decide +kernel,rfl,by decide +kernel,by decide +kernel⟩
set_option maxHeartbeats 8000000 in
theorem ok_law (F : Fun K "law" "law" s_law f fd) (T : Nm mg) (GC : Def P w K mg base CX0 1 "_law_cell" ["_law_script","_law_k"] (spCell K)) (GD : Def P w K mg base CX0 4 "_law_document" ["_law_script","_law_most"] (spDoc K)) (GL : Def P w K mg base CX0 2 "_law_lines" ["_law_doc"] spLines) (GCh : Def P w K mg base CX0 4 "_law_changed" ["_law_script","_law_at","_law_lines_here"] (spChanged K)) (GR : Def P w K mg base CX0 15 "_law_right" ["_law_lines_here"] spRight) : FnOk P w K mg base CX0 16 f fd ["_law_script"] (spLaw K):=by
 refine F.ok scLaw (fun vs H Q E h=>?_) (fun cdv A outer s H vs Q E hr h=>?_)
 ·obtain ⟨a,ns,rfl,_⟩:=h
  rfl
 obtain ⟨a,ns,rfl,hS,h63,q⟩:=h
 refine ⟨_,pss_cons (ps_set (i:=1) scLaw.nd rfl (Or.inl rfl) (pe_lst pa_nil))
  (pss_cons (ps_for PassesOwn.never rfl (pi_list (pe_def GL (hr.mono (by decide)) (pa_cons (pe_def GD (hr.mono (by decide)) (pa_cons (pv 0) (pa_cons pe_int pa_nil))) pa_nil))) (pg_name (i:=2) scLaw.nd rfl (Or.inl rfl))
   (pss_cons (ps_set (i:=3) scLaw.nd rfl (Or.inl rfl) pe_str)
   (pss_cons (ps_if (PW.pt (pw_or (pt_cmpR op_eq (pv 2) pe_str (nomark _)) (pw_or1 (pt_cmpR op_eq (pv 2) pe_str (nomark _))))) (pss_one (ps_set (i:=3) scLaw.nd rfl (Or.inl rfl) (pv 2))) pss_nil)
   (pss_one (ps_expr (pe_bm PySem.F.plainAttrs_list PySem.F.slot_list_append PySem.F.type_list_append mt_append (pv 1) (pa_cons (pe_tup (pa_cons (pv 3) (pa_cons (pv 2) pa_nil))) pa_nil)))))))
  (pss_cons (ps_set (i:=4) scLaw.nd rfl (Or.inl rfl) (pe_def GCh (hr.mono (by decide)) (pa_cons (pv 0) (pa_cons pe_int (pa_cons (pv 1) pa_nil)))))
  (pss_cons (ps_if (pt_cmpR op_gt (pe_op op_mod (pe_def GC (hr.mono (by decide)) (pa_cons (pv 0) (pa_cons pe_int pa_nil))) pe_int) pe_int (nomark _))
   (pss_one (ps_set (i:=4) scLaw.nd rfl (Or.inl rfl) (pe_def GCh (hr.mono (by decide)) (pa_cons (pv 0) (pa_cons pe_int (pa_cons (pv 4) pa_nil)))))) pss_nil)
  (pss_cons (ps_if (PW.pt (pw_or (pt_not (pt_val (pe_def GR hr (pa_cons (pv 1) pa_nil)))) (pw_or (pt_not (pt_val (pe_def GR hr (pa_cons (pv 4) pa_nil)))) (pw_or1 (pt_not (pt_val (pe_def GR hr (pa_cons (pe_op op_cat (pv 1) (pe_lst (pa_cons (pe_tup (pa_cons pe_str (pa_cons pe_str pa_nil))) pa_nil))) pa_nil))))))))
   (pss_one (ps_ret pe_bl)) pss_nil)
  (pss_one (ps_ret (pe_and (pe_def GR hr (pa_cons (pe_lst (pa_cons (pe_tup (pa_cons pe_str (pa_cons pe_str pa_nil))) (pa_cons (pe_tup (pa_cons pe_str (pa_cons pe_str pa_nil))) pa_nil))) pa_nil)) (pe_and (pe_def GR hr (pa_cons (pv 1) pa_nil)) (pe_one (pe_def GR hr (pa_cons (pv 4) pa_nil))))))))))),?_⟩
 have hbig : 2000000 <= sizeLine:=by decide
 refine ⟨(by show 0 <= sizeLine; decide),fun p hp=>?_⟩
 have g1:=same_new hp (.lst [])
 have e1 : upd H p (.lst []) p = some (.lst []):=upd_same
 show tSeq _ _ _ [some (V.ref a),some (V.ref p),none,none,none] (upd H p (.lst []))
 generalize upd H p (.lst []) = H1 at g1 e1 ⊢
 refine ⟨_,rfl,a,ns,24,rfl,g1.seq hS,h63,by decide,by decide,fun fo m dv H2 g2 hd hok hm=>?_⟩
 have hm24 : m <= 24:=by have : max 6 (24 : Int).toNat = 24:=rfl; omega
 have hlen : fo.ord.length = m:=by
  have:=hok.perm.length_eq
  rw [List.length_map,List.length_map,List.length_range] at this
  exact this
 refine ⟨dv,0,fo,rfl,hd,by omega,hok.ok,fun r H3 g3 e3=>?_⟩
 have hll:=lines_len fo
 have hkd:=lines_kind fo hok.ok
 have hnz : linesF fo ≠ []:=by
  have h1:=hok.one
  cases fo with
  | nil=>rw [<- hlen] at h1; exact absurd h1 (by decide)
  | say=>exact List.cons_ne_nil _ _
  | tell=>exact List.cons_ne_nil _ _
  | part=>exact List.cons_ne_nil _ _
 generalize linesF fo = zs at e3 hll hkd hnz ⊢
 have hz : zs.length <= 48:=by omega
 have p3:=g3 _ _ (g2 _ _ e1)
 have g13:=(g1.trans g2).trans g3
 have npr : r ≠ p:=fun z=>by
  rw [z,p3] at e3
  cases zs with
  | nil=>exact hnz rfl
  | cons y r=>cases e3
 refine ⟨r,rfl,⟨_,SqL.of e3⟩,?_⟩
 refine for_list (K:=K) (a:=r) (xs:=zs.map V.str) (fun i σ' H'=>∃ u v,σ' = [some (.ref a),some (.ref p),u,v,none] /\ Same H H' /\ H' r = some (.lst (zs.map V.str)) /\ LsR H' ((zs.take i).map kindL) p) ?_ (fun i σ' H' _ h=>by obtain ⟨_,_,_,_,h,_⟩:=h; exact SqL.of h) ?_ ?_
 ·exact ⟨none,none,rfl,g13,e3,[],p3,.nil⟩
 ·rintro i y σ' H' hi ⟨u,v,rfl,g,er,xs,ep,hxs⟩
  rw [List.getElem?_map] at hi
  cases hy : zs[i]? with
  | none=>rw [hy] at hi; cases hi
  | some x =>
   rw [hy] at hi
   cases hi
   have hxl : xs.length <= 48:=by
    rw [<- paired_lenM hxs,List.length_map,List.length_take]
    omega
   have fin : ∀ (k : Str),k = (kindL x).1 -> ∀ pt,H' pt = none -> ∃ u v : Option V,[some (V.ref a),some (V.ref p),some (V.str x),some (V.str k),none] = [some (.ref a),some (.ref p),u,v,none] /\ Same H (upd (upd H' pt (.tup [.str k,.str x])) p (.lst (xs ++ [.ref pt]))) /\ (upd (upd H' pt (.tup [.str k,.str x])) p (.lst (xs ++ [.ref pt]))) r = some (.lst (zs.map V.str)) /\ LsR (upd (upd H' pt (.tup [.str k,.str x])) p (.lst (xs ++ [.ref pt]))) ((zs.take (i + 1)).map kindL) p:=fun k hk pt hpt=>by
    have ga:=same_new hpt (.tup [.str k,.str x])
    have ea:=ga _ _ ep
    have tb : TSame (upd H' pt (.tup [.str k,.str x])) (upd (upd H' pt (.tup [.str k,.str x])) p (.lst (xs ++ [.ref pt]))):=TSame.lst ea
    refine ⟨_,_,rfl,keep_upd hp (g.trans ga) _,by rw [upd_ne npr]; exact ga _ _ er,xs ++ [.ref pt],upd_same,?_⟩
    rw [List.take_add_one,hy,List.map_append]
    refine paired_app (hxs.mono fun b o e=>tb b o (ga.t b o e)) (.cons ⟨pt,rfl,tb _ _ ?_⟩ .nil)
    rw [<- hk]
    exact upd_same
   have kl : ¬ (x = "part" ∨ x = "end") -> ("line" : Str) = (kindL x).1:=fun z=>by unfold kindL; rw [if_neg z]
   have kx : (x = "part" ∨ x = "end") -> x = (kindL x).1:=fun z=>by unfold kindL; rw [if_pos z]
   have eq2 : ∀ {y : Str},decide (V.str x = V.str y) = true -> x = y:=fun z=>V.str.inj (of_decide_eq_true z)
   refine ⟨_,rfl,rfl,_,rfl,?_⟩
   refine ite2 (fun z=>?_) (fun z=>?_)
   ·refine iteT ?_
    refine ⟨_,rfl,_,rfl,.inl ⟨rfl,_,SqL.of ep⟩,_,rfl,_,rfl,(by show 2 <= sizeLine; decide),fun pt hpt=>⟨p,_,_,rfl,rfl,(same_new hpt _) _ _ ep,by omega,?_⟩⟩
    exact fin x (kx (.inl (eq2 z))) pt hpt
   refine ⟨_,rfl,rfl,_,rfl,?_⟩
   refine ite2 (fun z2=>?_) (fun z2=>?_)
   ·refine ⟨_,rfl,_,rfl,.inl ⟨rfl,_,SqL.of ep⟩,_,rfl,_,rfl,(by show 2 <= sizeLine; decide),fun pt hpt=>⟨p,_,_,rfl,rfl,(same_new hpt _) _ _ ep,by omega,?_⟩⟩
    exact fin x (kx (.inr (eq2 z2))) pt hpt
   ·refine ⟨_,rfl,.inl ⟨rfl,_,SqL.of ep⟩,_,rfl,_,rfl,(by show 2 <= sizeLine; decide),fun pt hpt=>⟨p,_,_,rfl,rfl,(same_new hpt _) _ _ ep,by omega,?_⟩⟩
    exact fin "line" (kl fun y=>y.elim (fun y=>z (by rw [y]; exact decide_eq_true rfl)) (fun y=>z2 (by rw [y]; exact decide_eq_true rfl))) pt hpt
 ·rintro σ' H4 ⟨u,v,rfl,g,er,hL⟩
  rw [List.length_map,List.take_length] at hL
  have hR : RowsOk 5000 (zs.map kindL):=rows_kind hkd
  have hRl : (zs.map kindL).length <= 48:=by rw [List.length_map]; exact hz
  generalize zs.map kindL = L at hL hR hRl
  clear er e3 npr hkd hll hnz p3 g13
  refine ⟨_,rfl,_,rfl,a,ns,5,p,L,5000,rfl,g.seq hS,h63,by decide,by decide,hL,hR,by omega,by decide,by decide,fun L5 p5 H5 g5 h5 o5 l5=>?_⟩
  have gg:=g.trans g5
  have hL5:=hL.mono g5
  refine ⟨_,rfl,a,ns,4,rfl,gg.seq hS,h63,by decide,by decide,_,_,rfl,rfl,(by show (0 : Int) < 3; decide),_,_,rfl,rfl,_,rfl,?_⟩
  refine ite2 (fun _=>?_) (fun _=>?_)
  ·refine ⟨_,rfl,_,rfl,a,ns,7,p5,L5,5500,rfl,gg.seq hS,h63,by decide,by decide,h5,o5,by omega,by decide,by decide,fun L6 p6 H6 g6 h6 o6 l6=>?_⟩
   have hL6:=hL5.mono g6
   obtain ⟨y1,e1y,r1y⟩:=id hL6
   refine ⟨_,rfl,_,y1,_,rfl,e1y,r1y,(hR.l (by decide) (by omega)),fun H7 g7=>⟨_,rfl,iteF ?_⟩⟩
   obtain ⟨y2,e2y,r2y⟩:=id (h6.mono g7)
   refine ⟨_,rfl,_,y2,_,rfl,e2y,r2y,(o6.l (by decide) (by omega)),fun H8 g8=>⟨_,rfl,iteF ?_⟩⟩
   refine ⟨_,rfl,?_⟩
   refine one_ls fun p9 H9 g9 h9=>?_
   refine cat_ls (hL6.mono ((g7.trans g8).trans g9)) h9 (by rw [List.length_singleton]; omega) fun pa Ha ga hha=>?_
   obtain ⟨y3,e3y,r3y⟩:=id hha
   refine ⟨_,y3,_,rfl,e3y,r3y,((hR.app (ok_odd0 (by decide))).l (by decide) (by rw [List.length_append,List.length_singleton]; omega)),fun Hb gb=>⟨_,rfl,iteF ?_⟩⟩
   have gx:=(((g7.trans g8).trans g9).trans ga).trans gb
   refine nx_mk ?_
   refine ret_two fun pc Hc gc hhc=>?_
   obtain ⟨y4,e4y,r4y⟩:=id hhc
   refine ⟨_,y4,_,rfl,e4y,r4y,(((ok_odd0 (by decide)).app (ok_odd0 (by decide)) : RowsOk 5000 _).l (by decide) (by decide)),fun Hd gd=>⟨_,rfl,iteT ?_⟩⟩
   obtain ⟨y5,e5y,r5y⟩:=id (hL6.mono ((gx.trans gc).trans gd))
   refine ⟨_,rfl,_,y5,_,rfl,e5y,r5y,(hR.l (by decide) (by omega)),fun He ge=>⟨_,rfl,iteT ?_⟩⟩
   obtain ⟨y6,e6y,r6y⟩:=id (h6.mono (((gx.trans gc).trans gd).trans ge))
   exact ⟨_,rfl,_,y6,_,rfl,e6y,r6y,(o6.l (by decide) (by omega)),fun Hf _=>q Hf⟩
  have hL6:=hL5
  have h6:=h5
  have o6:=o5
  have l6:=l5
  obtain ⟨y7,e7y,r7y⟩:=id hL6
  refine ⟨_,rfl,_,y7,_,rfl,e7y,r7y,(hR.l (by decide) (by omega)),fun H7 g7=>⟨_,rfl,iteF ?_⟩⟩
  obtain ⟨y8,e8y,r8y⟩:=id (h6.mono g7)
  refine ⟨_,rfl,_,y8,_,rfl,e8y,r8y,(o6.l (by decide) (by omega)),fun H8 g8=>⟨_,rfl,iteF ?_⟩⟩
  refine ⟨_,rfl,?_⟩
  refine one_ls fun p9 H9 g9 h9=>?_
  refine cat_ls (hL6.mono ((g7.trans g8).trans g9)) h9 (by rw [List.length_singleton]; omega) fun pa Ha ga hha=>?_
  obtain ⟨y9,e9y,r9y⟩:=id hha
  refine ⟨_,y9,_,rfl,e9y,r9y,((hR.app (ok_odd0 (by decide))).l (by decide) (by rw [List.length_append,List.length_singleton]; omega)),fun Hb gb=>⟨_,rfl,iteF ?_⟩⟩
  have gx:=(((g7.trans g8).trans g9).trans ga).trans gb
  refine nx_mk ?_
  refine ret_two fun pc Hc gc hhc=>?_
  obtain ⟨y10,e10y,r10y⟩:=id hhc
  refine ⟨_,y10,_,rfl,e10y,r10y,(((ok_odd0 (by decide)).app (ok_odd0 (by decide)) : RowsOk 5000 _).l (by decide) (by decide)),fun Hd gd=>⟨_,rfl,iteT ?_⟩⟩
  obtain ⟨y11,e11y,r11y⟩:=id (hL6.mono ((gx.trans gc).trans gd))
  refine ⟨_,rfl,_,y11,_,rfl,e11y,r11y,(hR.l (by decide) (by omega)),fun He ge=>⟨_,rfl,iteT ?_⟩⟩
  obtain ⟨y12,e12y,r12y⟩:=id (h6.mono (((gx.trans gc).trans gd).trans ge))
  exact ⟨_,rfl,_,y12,_,rfl,e12y,r12y,(o6.l (by decide) (by omega)),fun Hf _=>q Hf⟩
end
end D
namespace D
open PySem L2
theorem rel_str {s : Str} {t : Tok} {x : Str} (h : s = x) : RelV (.str x) (.str s t):=⟨t,by rw [h]⟩
def ScObj (o : Obj) : Prop:=o.cls = .type "tuple" /\ ∃ (its : Array Value) (n : Nat),o.data = .seq its n /\ its.size <= sizeLine /\ Vals (scs.map V.str) its.toList
theorem scs_mk {od : Option Addr} {n : Nat} {sl : Array (Option Value)} {t0 t1 t2 t3 : Tok} {s0 s1 s2 s3 : Str} (h0 : s0 = "all") (h1 : s1 = "part") (h2 : s2 = "here") (h3 : s3 = "else") : ScObj ⟨.type "tuple",od,.seq #[.str s0 t0,.str s1 t1,.str s2 t2,.str s3 t3] n,sl⟩ :=
 ⟨rfl,_,_,rfl,(by show 4 <= sizeLine; decide),.cons (rel_str h0) (.cons (rel_str h1) (.cons (rel_str h2) (.cons (rel_str h3) .nil)))⟩
theorem scs_sq {K : PySem.W.Frag} {CS : Addr} (h : ∃ o : Obj,K.lookup CS = some o /\ ScObj o) (H : Hp) : SqT K H CS (scs.map V.str):=by
 obtain ⟨o,hk,hc,its,n,hd,hz,hv⟩:=h
 exact .inr ⟨o,its,n,hk,hc,hd,hz,hv⟩
end D
namespace D
open PySem L2
theorem on1 {α : Type} {p : List α -> Prop} (h : ∀ x0,p [x0]) : ∀ us : List α,us.length = 1 -> p us
 | [x0],_=>h x0
theorem on2 {α : Type} {p : List α -> Prop} (h : ∀ x0 x1,p [x0,x1]) : ∀ us : List α,us.length = 2 -> p us
 | [x0,x1],_=>h x0 x1
theorem on3 {α : Type} {p : List α -> Prop} (h : ∀ x0 x1 x2,p [x0,x1,x2]) : ∀ us : List α,us.length = 3 -> p us
 | [x0,x1,x2],_=>h x0 x1 x2
theorem on4 {α : Type} {p : List α -> Prop} (h : ∀ x0 x1 x2 x3,p [x0,x1,x2,x3]) : ∀ us : List α,us.length = 4 -> p us
 | [x0,x1,x2,x3],_=>h x0 x1 x2 x3
set_option maxHeartbeats 8000000 in
theorem all_mk {l : PySem.W.OpenLaw} {w : World} {K : PySem.W.Frag} {h : Heap} {mg : Str -> Option Value} {fa CN CF CS CR CD CE CG f1 f2 f3 f4 f5 f6 f7 f8 f9 f10 f11 f12 f13 f14 f15 f16 f17 f18 f19 f20 f21 f22 f23 f24 f25 f26 f27 f28 f29 f30 f31 f32 f33 f34 f35 f36 f37 f38 f39 f40 : Addr} (X : K.In h) (G : h.Ns mainGlobals mg) (hfa : mg "law" = some (.ref fa))
  {od1 an1 od2 an2 od3 an3 od4 an4 od5 an5 od6 an6 od7 an7 od8 an8 od9 an9 od10 an10 od11 an11 od12 an12 od13 an13 od14 an14 od15 an15 od16 an16 od17 an17 od18 an18 od19 an19 od20 an20 od21 an21 od22 an22 od23 an23 od24 an24 od25 an25 od26 an26 od27 an27 od28 an28 od29 an29 od30 an30 od31 an31 od32 an32 od33 an33 od34 an34 od35 an35 od36 an36 od37 an37 od38 an38 od39 an39 od40 an40 : Option Addr} {sl1 sl2 sl3 sl4 sl5 sl6 sl7 sl8 sl9 sl10 sl11 sl12 sl13 sl14 sl15 sl16 sl17 sl18 sl19 sl20 sl21 sl22 sl23 sl24 sl25 sl26 sl27 sl28 sl29 sl30 sl31 sl32 sl33 sl34 sl35 sl36 sl37 sl38 sl39 sl40 : Array (Option Value)} {oc1 kV1 dc1 pm1 cd1 ct1 oc2 kV2 dc2 pm2 cd2 ct2 oc3 kV3 dc3 pm3 cd3 ct3 oc4 kV4 dc4 pm4 cd4 ct4 oc5 kV5 dc5 pm5 cd5 ct5 oc6 kV6 dc6 pm6 cd6 ct6 oc7 kV7 dc7 pm7 cd7 ct7 oc8 kV8 dc8 pm8 cd8 ct8 oc9 kV9 dc9 pm9 cd9 ct9 oc10 kV10 dc10 pm10 cd10 ct10 oc11 kV11 dc11 pm11 cd11 ct11 oc12 kV12 dc12 pm12 cd12 ct12 oc13 kV13 dc13 pm13 cd13 ct13 oc14 kV14 dc14 pm14 cd14 ct14 oc15 kV15 dc15 pm15 cd15 ct15 oc16 kV16 dc16 pm16 cd16 ct16 oc17 kV17 dc17 pm17 cd17 ct17 oc18 kV18 dc18 pm18 cd18 ct18 oc19 kV19 dc19 pm19 cd19 ct19 oc20 kV20 dc20 pm20 cd20 ct20 oc21 kV21 dc21 pm21 cd21 ct21 oc22 kV22 dc22 pm22 cd22 ct22 oc23 kV23 dc23 pm23 cd23 ct23 oc24 kV24 dc24 pm24 cd24 ct24 oc25 kV25 dc25 pm25 cd25 ct25 oc26 kV26 dc26 pm26 cd26 ct26 oc27 kV27 dc27 pm27 cd27 ct27 oc28 kV28 dc28 pm28 cd28 ct28 oc29 kV29 dc29 pm29 cd29 ct29 oc30 kV30 dc30 pm30 cd30 ct30 oc31 kV31 dc31 pm31 cd31 ct31 oc32 kV32 dc32 pm32 cd32 ct32 oc33 kV33 dc33 pm33 cd33 ct33 oc34 kV34 dc34 pm34 cd34 ct34 oc35 kV35 dc35 pm35 cd35 ct35 oc36 kV36 dc36 pm36 cd36 ct36 oc37 kV37 dc37 pm37 cd37 ct37 oc38 kV38 dc38 pm38 cd38 ct38 oc39 kV39 dc39 pm39 cd39 ct39 oc40 kV40 dc40 pm40 cd40 ct40 : Value} {tk0 tk1 tk2 tk3 tk4 tk5 : Tok}
  (a1 : PySem.W.nsIn K mainGlobals "is_word" = some (some (.ref f1))) (l1 : K.lookup f1 = some ⟨oc1,od1,.func (PySem.W.fnOf "is_word" "is_word" (defArgs s_is_word) (defBody s_is_word) (defScope s_is_word) .none kV1 dc1 pm1 an1 cd1 ct1),sl1⟩) (c1 : PySem.W.codeIn K cd1 "is_word" = true) (k1 : PySem.W.keepIn K (.ref f1) = true)
  (a2 : PySem.W.nsIn K mainGlobals "words_of" = some (some (.ref f2))) (l2 : K.lookup f2 = some ⟨oc2,od2,.func (PySem.W.fnOf "words_of" "words_of" (defArgs s_words_of) (defBody s_words_of) (defScope s_words_of) .none kV2 dc2 pm2 an2 cd2 ct2),sl2⟩) (c2 : PySem.W.codeIn K cd2 "words_of" = true) (k2 : PySem.W.keepIn K (.ref f2) = true)
  (a3 : PySem.W.nsIn K mainGlobals "text_of" = some (some (.ref f3))) (l3 : K.lookup f3 = some ⟨oc3,od3,.func (PySem.W.fnOf "text_of" "text_of" (defArgs s_text_of) (defBody s_text_of) (defScope s_text_of) .none kV3 dc3 pm3 an3 cd3 ct3),sl3⟩) (c3 : PySem.W.codeIn K cd3 "text_of" = true) (k3 : PySem.W.keepIn K (.ref f3) = true)
  (a4 : PySem.W.nsIn K mainGlobals "bent" = some (some (.ref f4))) (l4 : K.lookup f4 = some ⟨oc4,od4,.func (PySem.W.fnOf "bent" "bent" (defArgs s_bent) (defBody s_bent) (defScope s_bent) .none kV4 dc4 pm4 an4 cd4 ct4),sl4⟩) (c4 : PySem.W.codeIn K cd4 "bent" = true) (k4 : PySem.W.keepIn K (.ref f4) = true)
  (a5 : PySem.W.nsIn K mainGlobals "forms" = some (some (.ref f5))) (l5 : K.lookup f5 = some ⟨oc5,od5,.func (PySem.W.fnOf "forms" "forms" (defArgs s_forms) (defBody s_forms) (defScope s_forms) .none kV5 dc5 pm5 an5 cd5 ct5),sl5⟩) (c5 : PySem.W.codeIn K cd5 "forms" = true) (k5 : PySem.W.keepIn K (.ref f5) = true)
  (a6 : PySem.W.nsIn K mainGlobals "telling_row" = some (some (.ref f6))) (l6 : K.lookup f6 = some ⟨oc6,od6,.func (PySem.W.fnOf "telling_row" "telling_row" (defArgs s_telling_row) (defBody s_telling_row) (defScope s_telling_row) .none kV6 dc6 pm6 an6 cd6 ct6),sl6⟩) (c6 : PySem.W.codeIn K cd6 "telling_row" = true) (k6 : PySem.W.keepIn K (.ref f6) = true)
  (a7 : PySem.W.nsIn K mainGlobals "rows_within" = some (some (.ref f7))) (l7 : K.lookup f7 = some ⟨oc7,od7,.func (PySem.W.fnOf "rows_within" "rows_within" (defArgs s_rows_within) (defBody s_rows_within) (defScope s_rows_within) .none kV7 dc7 pm7 an7 cd7 ct7),sl7⟩) (c7 : PySem.W.codeIn K cd7 "rows_within" = true) (k7 : PySem.W.keepIn K (.ref f7) = true)
  (a8 : PySem.W.nsIn K mainGlobals "written" = some (some (.ref f8))) (l8 : K.lookup f8 = some ⟨oc8,od8,.func (PySem.W.fnOf "written" "written" (defArgs s_written) (defBody s_written) (defScope s_written) .none kV8 dc8 pm8 an8 cd8 ct8),sl8⟩) (c8 : PySem.W.codeIn K cd8 "written" = true) (k8 : PySem.W.keepIn K (.ref f8) = true)
  (a9 : PySem.W.nsIn K mainGlobals "read_words" = some (some (.ref f9))) (l9 : K.lookup f9 = some ⟨oc9,od9,.func (PySem.W.fnOf "read_words" "read_words" (defArgs s_read_words) (defBody s_read_words) (defScope s_read_words) .none kV9 dc9 pm9 an9 cd9 ct9),sl9⟩) (c9 : PySem.W.codeIn K cd9 "read_words" = true) (k9 : PySem.W.keepIn K (.ref f9) = true)
  (a10 : PySem.W.nsIn K mainGlobals "read_bend" = some (some (.ref f10))) (l10 : K.lookup f10 = some ⟨oc10,od10,.func (PySem.W.fnOf "read_bend" "read_bend" (defArgs s_read_bend) (defBody s_read_bend) (defScope s_read_bend) .none kV10 dc10 pm10 an10 cd10 ct10),sl10⟩) (c10 : PySem.W.codeIn K cd10 "read_bend" = true) (k10 : PySem.W.keepIn K (.ref f10) = true)
  (a11 : PySem.W.nsIn K mainGlobals "read_phrase_and_bends" = some (some (.ref f11))) (l11 : K.lookup f11 = some ⟨oc11,od11,.func (PySem.W.fnOf "read_phrase_and_bends" "read_phrase_and_bends" (defArgs s_read_phrase_and_bends) (defBody s_read_phrase_and_bends) (defScope s_read_phrase_and_bends) .none kV11 dc11 pm11 an11 cd11 ct11),sl11⟩) (c11 : PySem.W.codeIn K cd11 "read_phrase_and_bends" = true) (k11 : PySem.W.keepIn K (.ref f11) = true)
  (a12 : PySem.W.nsIn K mainGlobals "has_forms" = some (some (.ref f12))) (l12 : K.lookup f12 = some ⟨oc12,od12,.func (PySem.W.fnOf "has_forms" "has_forms" (defArgs s_has_forms) (defBody s_has_forms) (defScope s_has_forms) .none kV12 dc12 pm12 an12 cd12 ct12),sl12⟩) (c12 : PySem.W.codeIn K cd12 "has_forms" = true) (k12 : PySem.W.keepIn K (.ref f12) = true)
  (a13 : PySem.W.nsIn K mainGlobals "read_say" = some (some (.ref f13))) (l13 : K.lookup f13 = some ⟨oc13,od13,.func (PySem.W.fnOf "read_say" "read_say" (defArgs s_read_say) (defBody s_read_say) (defScope s_read_say) .none kV13 dc13 pm13 an13 cd13 ct13),sl13⟩) (c13 : PySem.W.codeIn K cd13 "read_say" = true) (k13 : PySem.W.keepIn K (.ref f13) = true)
  (a14 : PySem.W.nsIn K mainGlobals "read_telling" = some (some (.ref f14))) (l14 : K.lookup f14 = some ⟨oc14,od14,.func (PySem.W.fnOf "read_telling" "read_telling" (defArgs s_read_telling) (defBody s_read_telling) (defScope s_read_telling) .none kV14 dc14 pm14 an14 cd14 ct14),sl14⟩) (c14 : PySem.W.codeIn K cd14 "read_telling" = true) (k14 : PySem.W.keepIn K (.ref f14) = true)
  (a15 : PySem.W.nsIn K mainGlobals "read_row" = some (some (.ref f15))) (l15 : K.lookup f15 = some ⟨oc15,od15,.func (PySem.W.fnOf "read_row" "read_row" (defArgs s_read_row) (defBody s_read_row) (defScope s_read_row) .none kV15 dc15 pm15 an15 cd15 ct15),sl15⟩) (c15 : PySem.W.codeIn K cd15 "read_row" = true) (k15 : PySem.W.keepIn K (.ref f15) = true)
  (a16 : PySem.W.nsIn K mainGlobals "cut_in_rows" = some (some (.ref f16))) (l16 : K.lookup f16 = some ⟨oc16,od16,.func (PySem.W.fnOf "cut_in_rows" "cut_in_rows" (defArgs s_cut_in_rows) (defBody s_cut_in_rows) (defScope s_cut_in_rows) .none kV16 dc16 pm16 an16 cd16 ct16),sl16⟩) (c16 : PySem.W.codeIn K cd16 "cut_in_rows" = true) (k16 : PySem.W.keepIn K (.ref f16) = true)
  (a17 : PySem.W.nsIn K mainGlobals "end_part" = some (some (.ref f17))) (l17 : K.lookup f17 = some ⟨oc17,od17,.func (PySem.W.fnOf "end_part" "end_part" (defArgs s_end_part) (defBody s_end_part) (defScope s_end_part) .none kV17 dc17 pm17 an17 cd17 ct17),sl17⟩) (c17 : PySem.W.codeIn K cd17 "end_part" = true) (k17 : PySem.W.keepIn K (.ref f17) = true)
  (a18 : PySem.W.nsIn K mainGlobals "read" = some (some (.ref f18))) (l18 : K.lookup f18 = some ⟨oc18,od18,.func (PySem.W.fnOf "read" "read" (defArgs s_read) (defBody s_read) (defScope s_read) .none kV18 dc18 pm18 an18 cd18 ct18),sl18⟩) (c18 : PySem.W.codeIn K cd18 "read" = true) (k18 : PySem.W.keepIn K (.ref f18) = true)
  (a19 : PySem.W.nsIn K mainGlobals "_law_cell" = some (some (.ref f19))) (l19 : K.lookup f19 = some ⟨oc19,od19,.func (PySem.W.fnOf "_law_cell" "_law_cell" (defArgs s_l_cell) (defBody s_l_cell) (defScope s_l_cell) .none kV19 dc19 pm19 an19 cd19 ct19),sl19⟩) (c19 : PySem.W.codeIn K cd19 "_law_cell" = true) (k19 : PySem.W.keepIn K (.ref f19) = true)
  (a20 : PySem.W.nsIn K mainGlobals "_law_mixed" = some (some (.ref f20))) (l20 : K.lookup f20 = some ⟨oc20,od20,.func (PySem.W.fnOf "_law_mixed" "_law_mixed" (defArgs s_l_mixed) (defBody s_l_mixed) (defScope s_l_mixed) .none kV20 dc20 pm20 an20 cd20 ct20),sl20⟩) (c20 : PySem.W.codeIn K cd20 "_law_mixed" = true) (k20 : PySem.W.keepIn K (.ref f20) = true)
  (a21 : PySem.W.nsIn K mainGlobals "_law_menu" = some (some (.ref f21))) (l21 : K.lookup f21 = some ⟨oc21,od21,.func (PySem.W.fnOf "_law_menu" "_law_menu" (defArgs s_l_menu) (defBody s_l_menu) (defScope s_l_menu) .none kV21 dc21 pm21 an21 cd21 ct21),sl21⟩) (c21 : PySem.W.codeIn K cd21 "_law_menu" = true) (k21 : PySem.W.keepIn K (.ref f21) = true)
  (a22 : PySem.W.nsIn K mainGlobals "_law_plain_words" = some (some (.ref f22))) (l22 : K.lookup f22 = some ⟨oc22,od22,.func (PySem.W.fnOf "_law_plain_words" "_law_plain_words" (defArgs s_l_plain_words) (defBody s_l_plain_words) (defScope s_l_plain_words) .none kV22 dc22 pm22 an22 cd22 ct22),sl22⟩) (c22 : PySem.W.codeIn K cd22 "_law_plain_words" = true) (k22 : PySem.W.keepIn K (.ref f22) = true)
  (a23 : PySem.W.nsIn K mainGlobals "_law_row" = some (some (.ref f23))) (l23 : K.lookup f23 = some ⟨oc23,od23,.func (PySem.W.fnOf "_law_row" "_law_row" (defArgs s_l_row) (defBody s_l_row) (defScope s_l_row) .none kV23 dc23 pm23 an23 cd23 ct23),sl23⟩) (c23 : PySem.W.codeIn K cd23 "_law_row" = true) (k23 : PySem.W.keepIn K (.ref f23) = true)
  (a24 : PySem.W.nsIn K mainGlobals "_law_bends" = some (some (.ref f24))) (l24 : K.lookup f24 = some ⟨oc24,od24,.func (PySem.W.fnOf "_law_bends" "_law_bends" (defArgs s_l_bends) (defBody s_l_bends) (defScope s_l_bends) .none kV24 dc24 pm24 an24 cd24 ct24),sl24⟩) (c24 : PySem.W.codeIn K cd24 "_law_bends" = true) (k24 : PySem.W.keepIn K (.ref f24) = true)
  (a25 : PySem.W.nsIn K mainGlobals "_law_thing" = some (some (.ref f25))) (l25 : K.lookup f25 = some ⟨oc25,od25,.func (PySem.W.fnOf "_law_thing" "_law_thing" (defArgs s_l_thing) (defBody s_l_thing) (defScope s_l_thing) .none kV25 dc25 pm25 an25 cd25 ct25),sl25⟩) (c25 : PySem.W.codeIn K cd25 "_law_thing" = true) (k25 : PySem.W.keepIn K (.ref f25) = true)
  (a26 : PySem.W.nsIn K mainGlobals "_law_number" = some (some (.ref f26))) (l26 : K.lookup f26 = some ⟨oc26,od26,.func (PySem.W.fnOf "_law_number" "_law_number" (defArgs s_l_number) (defBody s_l_number) (defScope s_l_number) .none kV26 dc26 pm26 an26 cd26 ct26),sl26⟩) (c26 : PySem.W.codeIn K cd26 "_law_number" = true) (k26 : PySem.W.keepIn K (.ref f26) = true)
  (a27 : PySem.W.nsIn K mainGlobals "_law_ended" = some (some (.ref f27))) (l27 : K.lookup f27 = some ⟨oc27,od27,.func (PySem.W.fnOf "_law_ended" "_law_ended" (defArgs s_l_ended) (defBody s_l_ended) (defScope s_l_ended) .none kV27 dc27 pm27 an27 cd27 ct27),sl27⟩) (c27 : PySem.W.codeIn K cd27 "_law_ended" = true) (k27 : PySem.W.keepIn K (.ref f27) = true)
  (a28 : PySem.W.nsIn K mainGlobals "_law_document" = some (some (.ref f28))) (l28 : K.lookup f28 = some ⟨oc28,od28,.func (PySem.W.fnOf "_law_document" "_law_document" (defArgs s_l_document) (defBody s_l_document) (defScope s_l_document) .none kV28 dc28 pm28 an28 cd28 ct28),sl28⟩) (c28 : PySem.W.codeIn K cd28 "_law_document" = true) (k28 : PySem.W.keepIn K (.ref f28) = true)
  (a29 : PySem.W.nsIn K mainGlobals "_law_line" = some (some (.ref f29))) (l29 : K.lookup f29 = some ⟨oc29,od29,.func (PySem.W.fnOf "_law_line" "_law_line" (defArgs s_l_line) (defBody s_l_line) (defScope s_l_line) .none kV29 dc29 pm29 an29 cd29 ct29),sl29⟩) (c29 : PySem.W.codeIn K cd29 "_law_line" = true) (k29 : PySem.W.keepIn K (.ref f29) = true)
  (a30 : PySem.W.nsIn K mainGlobals "_law_lines" = some (some (.ref f30))) (l30 : K.lookup f30 = some ⟨oc30,od30,.func (PySem.W.fnOf "_law_lines" "_law_lines" (defArgs s_l_lines) (defBody s_l_lines) (defScope s_l_lines) .none kV30 dc30 pm30 an30 cd30 ct30),sl30⟩) (c30 : PySem.W.codeIn K cd30 "_law_lines" = true) (k30 : PySem.W.keepIn K (.ref f30) = true)
  (a31 : PySem.W.nsIn K mainGlobals "_law_many" = some (some (.ref f31))) (l31 : K.lookup f31 = some ⟨oc31,od31,.func (PySem.W.fnOf "_law_many" "_law_many" (defArgs s_l_many) (defBody s_l_many) (defScope s_l_many) .none kV31 dc31 pm31 an31 cd31 ct31),sl31⟩) (c31 : PySem.W.codeIn K cd31 "_law_many" = true) (k31 : PySem.W.keepIn K (.ref f31) = true)
  (a32 : PySem.W.nsIn K mainGlobals "_law_odd_says" = some (some (.ref f32))) (l32 : K.lookup f32 = some ⟨oc32,od32,.func (PySem.W.fnOf "_law_odd_says" "_law_odd_says" (defArgs s_l_odd_says) (defBody s_l_odd_says) (defScope s_l_odd_says) .none kV32 dc32 pm32 an32 cd32 ct32),sl32⟩) (c32 : PySem.W.codeIn K cd32 "_law_odd_says" = true) (k32 : PySem.W.keepIn K (.ref f32) = true)
  (a33 : PySem.W.nsIn K mainGlobals "_law_odd_tells" = some (some (.ref f33))) (l33 : K.lookup f33 = some ⟨oc33,od33,.func (PySem.W.fnOf "_law_odd_tells" "_law_odd_tells" (defArgs s_l_odd_tells) (defBody s_l_odd_tells) (defScope s_l_odd_tells) .none kV33 dc33 pm33 an33 cd33 ct33),sl33⟩) (c33 : PySem.W.codeIn K cd33 "_law_odd_tells" = true) (k33 : PySem.W.keepIn K (.ref f33) = true)
  (a34 : PySem.W.nsIn K mainGlobals "_law_spoiled" = some (some (.ref f34))) (l34 : K.lookup f34 = some ⟨oc34,od34,.func (PySem.W.fnOf "_law_spoiled" "_law_spoiled" (defArgs s_l_spoiled) (defBody s_l_spoiled) (defScope s_l_spoiled) .none kV34 dc34 pm34 an34 cd34 ct34),sl34⟩) (c34 : PySem.W.codeIn K cd34 "_law_spoiled" = true) (k34 : PySem.W.keepIn K (.ref f34) = true)
  (a35 : PySem.W.nsIn K mainGlobals "_law_odd" = some (some (.ref f35))) (l35 : K.lookup f35 = some ⟨oc35,od35,.func (PySem.W.fnOf "_law_odd" "_law_odd" (defArgs s_l_odd) (defBody s_l_odd) (defScope s_l_odd) .none kV35 dc35 pm35 an35 cd35 ct35),sl35⟩) (c35 : PySem.W.codeIn K cd35 "_law_odd" = true) (k35 : PySem.W.keepIn K (.ref f35) = true)
  (a36 : PySem.W.nsIn K mainGlobals "_law_changed" = some (some (.ref f36))) (l36 : K.lookup f36 = some ⟨oc36,od36,.func (PySem.W.fnOf "_law_changed" "_law_changed" (defArgs s_l_changed) (defBody s_l_changed) (defScope s_l_changed) .none kV36 dc36 pm36 an36 cd36 ct36),sl36⟩) (c36 : PySem.W.codeIn K cd36 "_law_changed" = true) (k36 : PySem.W.keepIn K (.ref f36) = true)
  (a37 : PySem.W.nsIn K mainGlobals "_law_due" = some (some (.ref f37))) (l37 : K.lookup f37 = some ⟨oc37,od37,.func (PySem.W.fnOf "_law_due" "_law_due" (defArgs s_l_due) (defBody s_l_due) (defScope s_l_due) .none kV37 dc37 pm37 an37 cd37 ct37),sl37⟩) (c37 : PySem.W.codeIn K cd37 "_law_due" = true) (k37 : PySem.W.keepIn K (.ref f37) = true)
  (a38 : PySem.W.nsIn K mainGlobals "_law_told" = some (some (.ref f38))) (l38 : K.lookup f38 = some ⟨oc38,od38,.func (PySem.W.fnOf "_law_told" "_law_told" (defArgs s_l_told) (defBody s_l_told) (defScope s_l_told) .none kV38 dc38 pm38 an38 cd38 ct38),sl38⟩) (c38 : PySem.W.codeIn K cd38 "_law_told" = true) (k38 : PySem.W.keepIn K (.ref f38) = true)
  (a39 : PySem.W.nsIn K mainGlobals "_law_right" = some (some (.ref f39))) (l39 : K.lookup f39 = some ⟨oc39,od39,.func (PySem.W.fnOf "_law_right" "_law_right" (defArgs s_l_right) (defBody s_l_right) (defScope s_l_right) .none kV39 dc39 pm39 an39 cd39 ct39),sl39⟩) (c39 : PySem.W.codeIn K cd39 "_law_right" = true) (k39 : PySem.W.keepIn K (.ref f39) = true)
  (a40 : PySem.W.nsIn K mainGlobals "law" = some (some (.ref f40))) (l40 : K.lookup f40 = some ⟨oc40,od40,.func (PySem.W.fnOf "law" "law" (defArgs s_law) (defBody s_law) (defScope s_law) .none kV40 dc40 pm40 an40 cd40 ct40),sl40⟩) (c40 : PySem.W.codeIn K cd40 "law" = true) (k40 : PySem.W.keepIn K (.ref f40) = true)
  (g1 : PySem.W.nsIn K mainGlobals "MOST_SIGNS" = some (some (.int 20 tk0))) (g2 : PySem.W.nsIn K mainGlobals "MOST_WORDS" = some (some (.int 200 tk1))) (g3 : PySem.W.nsIn K mainGlobals "MOST_PHRASE_WORDS" = some (some (.int 4 tk2))) (g4 : PySem.W.nsIn K mainGlobals "MOST_BENDS" = some (some (.int 5 tk3))) (g5 : PySem.W.nsIn K mainGlobals "DEEPEST_PART" = some (some (.int 8 tk4))) (g6 : PySem.W.nsIn K mainGlobals "WORD_SIGNS" = some (some (.str W62 tk5)))
  (z1 : PySem.W.nsIn K mainGlobals "len" = some none) (z2 : PySem.W.nsIn K mainGlobals "range" = some none) (z3 : PySem.W.nsIn K mainGlobals "int" = some none) (z4 : PySem.W.nsIn K mainGlobals "tuple" = some none) (z5 : PySem.W.nsIn K mainGlobals "list" = some none) (z6 : PySem.W.nsIn K mainGlobals "max" = some none) (z7 : PySem.W.nsIn K mainGlobals "min" = some none) (z8 : PySem.W.nsIn K mainGlobals "isinstance" = some none) (z9 : PySem.W.nsIn K mainGlobals "str" = some none) (z10 : PySem.W.nsIn K mainGlobals "all" = some none) (z11 : PySem.W.nsIn K mainGlobals "enumerate" = some none) (z12 : PySem.W.nsIn K mainGlobals "bool" = some none) (z13 : PySem.W.nsIn K mainGlobals "ValueError" = some none)
  (y1 : PySem.W.nsIn K mainGlobals "NoWord" = some (some (.ref CN))) (y2 : PySem.W.nsIn K mainGlobals "NoForm" = some (some (.ref CF))) (y3 : PySem.W.nsIn K mainGlobals "SCOPES" = some (some (.ref CS))) (y4 : PySem.W.nsIn K mainGlobals "NoRow" = some (some (.ref CR))) (y5 : PySem.W.nsIn K mainGlobals "TooDeep" = some (some (.ref CD))) (y6 : PySem.W.nsIn K mainGlobals "NoEnd" = some (some (.ref CE))) (y7 : PySem.W.nsIn K mainGlobals "GlossError" = some (some (.ref CG)))
  (kS : PySem.W.kitOne K (.type "str") (.type "str") = some true) (kb : PySem.W.kitOne K (.type "int") (.type "bool") = some false) (ki : PySem.W.kitOne K (.type "int") (.type "int") = some true) {oSc : Obj} (hSc : K.lookup CS = some oSc) (hSp : ScObj oSc) {fI : Addr} {odI anI : Option Addr} {slI : Array (Option Value)} {ocI kVI dcI pmI cdI ctI : Value} (jI : PySem.W.findIn K (.ref CR) "__init__" = some (some (.ref fI))) (lI : K.lookup fI = some ⟨ocI,odI,.func (PySem.W.fnOf "__init__" "NoRow.__init__" (defArgs s_init) (defBody s_init) (defScope s_init) .none kVI dcI pmI anI cdI ctI),slI⟩) (cI : PySem.W.codeIn K cdI "NoRow.__init__" = true) (kI : PySem.W.keepIn K (.ref fI) = true) (tI : PySem.W.typeIn K (.ref fI) = some (.type "function")) (jX : excJ K CR bmN "ValueError.__new__" = true) (vN : PySem.W.excIn K CN bmN "ValueError.__new__" = true) (vF : PySem.W.excIn K CF bmN "ValueError.__new__" = true) (vD : PySem.W.excIn K CD bmN "ValueError.__new__" = true) (vE : PySem.W.excIn K CE bmN "ValueError.__new__" = true) (wN : PySem.W.exmOne K (.ref CN) (.ref CN) = some true) (wF : PySem.W.exmOne K (.ref CF) (.ref CF) = some true) (s1 : PySem.W.findIn K (.ref CR) "__setattr__" = some (some (.builtin "object.__setattr__"))) (s2 : PySem.W.findIn K (.ref CR) "row" = some none) (s3 : PySem.W.mroIn K CR (.type "object") = some true) (s4 : (PySem.W.clsIn K CR).any (fun cd=>cd.hasDict && overVE cd.mro) = true) (s5 : PySem.W.hasDictIn K CR = true) (pRx : XCls K CR) (pRe : PySem.W.exmOne K (.ref CR) (.ref CG) = some true) (pRr : PySem.W.kitOne K (.ref CR) (.ref CR) = some true) (pRd : PySem.W.kitOne K (.ref CR) (.ref CD) = some false) (pRn : PySem.W.kitOne K (.ref CR) (.ref CE) = some false) (pRv : PySem.W.kitOne K (.ref CR) (.type "ValueError") = some true) (pRw : PySem.W.kitOne K (.ref CR) (.ref CN) = some false) (pRf : PySem.W.kitOne K (.ref CR) (.ref CF) = some false) (pDx : XCls K CD) (pDe : PySem.W.exmOne K (.ref CD) (.ref CG) = some true) (pDr : PySem.W.kitOne K (.ref CD) (.ref CR) = some false) (pDd : PySem.W.kitOne K (.ref CD) (.ref CD) = some true) (pDn : PySem.W.kitOne K (.ref CD) (.ref CE) = some false) (pDv : PySem.W.kitOne K (.ref CD) (.type "ValueError") = some true) (pDw : PySem.W.kitOne K (.ref CD) (.ref CN) = some false) (pDf : PySem.W.kitOne K (.ref CD) (.ref CF) = some false) (pEx : XCls K CE) (pEe : PySem.W.exmOne K (.ref CE) (.ref CG) = some true) (pEr : PySem.W.kitOne K (.ref CE) (.ref CR) = some false) (pEd : PySem.W.kitOne K (.ref CE) (.ref CD) = some false) (pEn : PySem.W.kitOne K (.ref CE) (.ref CE) = some true) (pEv : PySem.W.kitOne K (.ref CE) (.type "ValueError") = some true) (pEw : PySem.W.kitOne K (.ref CE) (.ref CN) = some false) (pEf : PySem.W.kitOne K (.ref CE) (.ref CF) = some false)
  : ∃ fd : FuncData,(∀ (s : Shared) (v : Value),BindsTo s fd ⟨[v],[]⟩ [("_law_script",v)]) /\ ∀ base : Heap,K.In base -> base.Ns mainGlobals mg -> FnOk l.prog w K mg base CX0 16 fa fd ["_law_script"] (spLaw K):=by
 have e:=hfa.symm.trans (PySem.W.mg_of X G a40)
 cases e
 have nz_len:=PySem.W.mg_none_of X G z1
 have nz_range:=PySem.W.mg_none_of X G z2
 have nz_int:=PySem.W.mg_none_of X G z3
 have nz_tuple:=PySem.W.mg_none_of X G z4
 have nz_list:=PySem.W.mg_none_of X G z5
 have nz_max:=PySem.W.mg_none_of X G z6
 have nz_min:=PySem.W.mg_none_of X G z7
 have nz_isinstance:=PySem.W.mg_none_of X G z8
 have nz_str:=PySem.W.mg_none_of X G z9
 have nz_all:=PySem.W.mg_none_of X G z10
 have nz_enumerate:=PySem.W.mg_none_of X G z11
 have nz_bool:=PySem.W.mg_none_of X G z12
 have nz_ValueError:=PySem.W.mg_none_of X G z13
 have ng_MOST_SIGNS:=PySem.W.mg_of X G g1
 have ng_MOST_WORDS:=PySem.W.mg_of X G g2
 have ng_MOST_PHRASE_WORDS:=PySem.W.mg_of X G g3
 have ng_MOST_BENDS:=PySem.W.mg_of X G g4
 have ng_DEEPEST_PART:=PySem.W.mg_of X G g5
 have ng_WORD_SIGNS:=PySem.W.mg_of X G g6
 have ny_NoWord:=PySem.W.mg_of X G y1
 have ny_NoForm:=PySem.W.mg_of X G y2
 have ny_SCOPES:=PySem.W.mg_of X G y3
 have ny_NoRow:=PySem.W.mg_of X G y4
 have ny_TooDeep:=PySem.W.mg_of X G y5
 have ny_NoEnd:=PySem.W.mg_of X G y6
 have ny_GlossError:=PySem.W.mg_of X G y7
 have F_is_word:=fun_mk (st:=s_is_word) l1 c1 k1
 have F_words_of:=fun_mk (st:=s_words_of) l2 c2 k2
 have F_text_of:=fun_mk (st:=s_text_of) l3 c3 k3
 have F_bent:=fun_mk (st:=s_bent) l4 c4 k4
 have F_forms:=fun_mk (st:=s_forms) l5 c5 k5
 have F_telling_row:=fun_mk (st:=s_telling_row) l6 c6 k6
 have F_rows_within:=fun_mk (st:=s_rows_within) l7 c7 k7
 have F_written:=fun_mk (st:=s_written) l8 c8 k8
 have F_read_words:=fun_mk (st:=s_read_words) l9 c9 k9
 have F_read_bend:=fun_mk (st:=s_read_bend) l10 c10 k10
 have F_read_phrase_and_bends:=fun_mk (st:=s_read_phrase_and_bends) l11 c11 k11
 have F_has_forms:=fun_mk (st:=s_has_forms) l12 c12 k12
 have F_read_say:=fun_mk (st:=s_read_say) l13 c13 k13
 have F_read_telling:=fun_mk (st:=s_read_telling) l14 c14 k14
 have F_read_row:=fun_mk (st:=s_read_row) l15 c15 k15
 have F_cut_in_rows:=fun_mk (st:=s_cut_in_rows) l16 c16 k16
 have F_end_part:=fun_mk (st:=s_end_part) l17 c17 k17
 have F_read:=fun_mk (st:=s_read) l18 c18 k18
 have F__law_cell:=fun_mk (st:=s_l_cell) l19 c19 k19
 have F__law_mixed:=fun_mk (st:=s_l_mixed) l20 c20 k20
 have F__law_menu:=fun_mk (st:=s_l_menu) l21 c21 k21
 have F__law_plain_words:=fun_mk (st:=s_l_plain_words) l22 c22 k22
 have F__law_row:=fun_mk (st:=s_l_row) l23 c23 k23
 have F__law_bends:=fun_mk (st:=s_l_bends) l24 c24 k24
 have F__law_thing:=fun_mk (st:=s_l_thing) l25 c25 k25
 have F__law_number:=fun_mk (st:=s_l_number) l26 c26 k26
 have F__law_ended:=fun_mk (st:=s_l_ended) l27 c27 k27
 have F__law_document:=fun_mk (st:=s_l_document) l28 c28 k28
 have F__law_line:=fun_mk (st:=s_l_line) l29 c29 k29
 have F__law_lines:=fun_mk (st:=s_l_lines) l30 c30 k30
 have F__law_many:=fun_mk (st:=s_l_many) l31 c31 k31
 have F__law_odd_says:=fun_mk (st:=s_l_odd_says) l32 c32 k32
 have F__law_odd_tells:=fun_mk (st:=s_l_odd_tells) l33 c33 k33
 have F__law_spoiled:=fun_mk (st:=s_l_spoiled) l34 c34 k34
 have F__law_odd:=fun_mk (st:=s_l_odd) l35 c35 k35
 have F__law_changed:=fun_mk (st:=s_l_changed) l36 c36 k36
 have F__law_due:=fun_mk (st:=s_l_due) l37 c37 k37
 have F__law_told:=fun_mk (st:=s_l_told) l38 c38 k38
 have F__law_right:=fun_mk (st:=s_l_right) l39 c39 k39
 have F_law:=fun_mk (st:=s_law) l40 c40 k40
 have b_is_word:=F_is_word.binds (ps:=["thing"]) fun _ _ _ _ _ _ us hl=>on1 (p:=fun us=>bindArgs _ { pos:=us } = pure (List.zip _ us)) (fun _=>rfl) us hl
 have b_words_of:=F_words_of.binds (ps:=["text"]) fun _ _ _ _ _ _ us hl=>on1 (p:=fun us=>bindArgs _ { pos:=us } = pure (List.zip _ us)) (fun _=>rfl) us hl
 have b_text_of:=F_text_of.binds (ps:=["words"]) fun _ _ _ _ _ _ us hl=>on1 (p:=fun us=>bindArgs _ { pos:=us } = pure (List.zip _ us)) (fun _=>rfl) us hl
 have b_bent:=F_bent.binds (ps:=["phrase","bend"]) fun _ _ _ _ _ _ us hl=>on2 (p:=fun us=>bindArgs _ { pos:=us } = pure (List.zip _ us)) (fun _ _=>rfl) us hl
 have b_forms:=F_forms.binds (ps:=["phrase","bends"]) fun _ _ _ _ _ _ us hl=>on2 (p:=fun us=>bindArgs _ { pos:=us } = pure (List.zip _ us)) (fun _ _=>rfl) us hl
 have b_telling_row:=F_telling_row.binds (ps:=["telling"]) fun _ _ _ _ _ _ us hl=>on1 (p:=fun us=>bindArgs _ { pos:=us } = pure (List.zip _ us)) (fun _=>rfl) us hl
 have b_rows_within:=F_rows_within.binds (ps:=["part"]) fun _ _ _ _ _ _ us hl=>on1 (p:=fun us=>bindArgs _ { pos:=us } = pure (List.zip _ us)) (fun _=>rfl) us hl
 have b_written:=F_written.binds (ps:=["doc"]) fun _ _ _ _ _ _ us hl=>on1 (p:=fun us=>bindArgs _ { pos:=us } = pure (List.zip _ us)) (fun _=>rfl) us hl
 have b_read_words:=F_read_words.binds (ps:=["text"]) fun _ _ _ _ _ _ us hl=>on1 (p:=fun us=>bindArgs _ { pos:=us } = pure (List.zip _ us)) (fun _=>rfl) us hl
 have b_read_bend:=F_read_bend.binds (ps:=["piece"]) fun _ _ _ _ _ _ us hl=>on1 (p:=fun us=>bindArgs _ { pos:=us } = pure (List.zip _ us)) (fun _=>rfl) us hl
 have b_read_phrase_and_bends:=F_read_phrase_and_bends.binds (ps:=["pieces"]) fun _ _ _ _ _ _ us hl=>on1 (p:=fun us=>bindArgs _ { pos:=us } = pure (List.zip _ us)) (fun _=>rfl) us hl
 have b_has_forms:=F_has_forms.binds (ps:=["phrase","bends"]) fun _ _ _ _ _ _ us hl=>on2 (p:=fun us=>bindArgs _ { pos:=us } = pure (List.zip _ us)) (fun _ _=>rfl) us hl
 have b_read_say:=F_read_say.binds (ps:=["text","number"]) fun _ _ _ _ _ _ us hl=>on2 (p:=fun us=>bindArgs _ { pos:=us } = pure (List.zip _ us)) (fun _ _=>rfl) us hl
 have b_read_telling:=F_read_telling.binds (ps:=["text","number"]) fun _ _ _ _ _ _ us hl=>on2 (p:=fun us=>bindArgs _ { pos:=us } = pure (List.zip _ us)) (fun _ _=>rfl) us hl
 have b_read_row:=F_read_row.binds (ps:=["row","number"]) fun _ _ _ _ _ _ us hl=>on2 (p:=fun us=>bindArgs _ { pos:=us } = pure (List.zip _ us)) (fun _ _=>rfl) us hl
 have b_cut_in_rows:=F_cut_in_rows.binds (ps:=["text"]) fun _ _ _ _ _ _ us hl=>on1 (p:=fun us=>bindArgs _ { pos:=us } = pure (List.zip _ us)) (fun _=>rfl) us hl
 have b_end_part:=F_end_part.binds (ps:=["unended"]) fun _ _ _ _ _ _ us hl=>on1 (p:=fun us=>bindArgs _ { pos:=us } = pure (List.zip _ us)) (fun _=>rfl) us hl
 have b_read:=F_read.binds (ps:=["text"]) fun _ _ _ _ _ _ us hl=>on1 (p:=fun us=>bindArgs _ { pos:=us } = pure (List.zip _ us)) (fun _=>rfl) us hl
 have b__law_cell:=F__law_cell.binds (ps:=["_law_script","_law_k"]) fun _ _ _ _ _ _ us hl=>on2 (p:=fun us=>bindArgs _ { pos:=us } = pure (List.zip _ us)) (fun _ _=>rfl) us hl
 have b__law_mixed:=F__law_mixed.binds (ps:=["_law_number_here"]) fun _ _ _ _ _ _ us hl=>on1 (p:=fun us=>bindArgs _ { pos:=us } = pure (List.zip _ us)) (fun _=>rfl) us hl
 have b__law_menu:=F__law_menu.binds (ps:=["_law_script"]) fun _ _ _ _ _ _ us hl=>on1 (p:=fun us=>bindArgs _ { pos:=us } = pure (List.zip _ us)) (fun _=>rfl) us hl
 have b__law_plain_words:=F__law_plain_words.binds (ps:=["_law_menu_here","_law_cell_here"]) fun _ _ _ _ _ _ us hl=>on2 (p:=fun us=>bindArgs _ { pos:=us } = pure (List.zip _ us)) (fun _ _=>rfl) us hl
 have b__law_row:=F__law_row.binds (ps:=["_law_cell_here","_law_menu_here","_law_many_here"]) fun _ _ _ _ _ _ us hl=>on3 (p:=fun us=>bindArgs _ { pos:=us } = pure (List.zip _ us)) (fun _ _ _=>rfl) us hl
 have b__law_bends:=F__law_bends.binds (ps:=["_law_last","_law_cell_here","_law_many_here"]) fun _ _ _ _ _ _ us hl=>on3 (p:=fun us=>bindArgs _ { pos:=us } = pure (List.zip _ us)) (fun _ _ _=>rfl) us hl
 have b__law_thing:=F__law_thing.binds (ps:=["_law_cell_here","_law_number_here","_law_menu_here","_law_size"]) fun _ _ _ _ _ _ us hl=>on4 (p:=fun us=>bindArgs _ { pos:=us } = pure (List.zip _ us)) (fun _ _ _ _=>rfl) us hl
 have b__law_number:=F__law_number.binds (ps:=["_law_script","_law_k"]) fun _ _ _ _ _ _ us hl=>on2 (p:=fun us=>bindArgs _ { pos:=us } = pure (List.zip _ us)) (fun _ _=>rfl) us hl
 have b__law_ended:=F__law_ended.binds (ps:=["_law_numbers","_law_inner"]) fun _ _ _ _ _ _ us hl=>on2 (p:=fun us=>bindArgs _ { pos:=us } = pure (List.zip _ us)) (fun _ _=>rfl) us hl
 have b__law_document:=F__law_document.binds (ps:=["_law_script","_law_most"]) fun _ _ _ _ _ _ us hl=>on2 (p:=fun us=>bindArgs _ { pos:=us } = pure (List.zip _ us)) (fun _ _=>rfl) us hl
 have b__law_line:=F__law_line.binds (ps:=["_law_thing_here"]) fun _ _ _ _ _ _ us hl=>on1 (p:=fun us=>bindArgs _ { pos:=us } = pure (List.zip _ us)) (fun _=>rfl) us hl
 have b__law_lines:=F__law_lines.binds (ps:=["_law_doc"]) fun _ _ _ _ _ _ us hl=>on1 (p:=fun us=>bindArgs _ { pos:=us } = pure (List.zip _ us)) (fun _=>rfl) us hl
 have b__law_many:=F__law_many.binds (ps:=["_law_words","_law_many_here"]) fun _ _ _ _ _ _ us hl=>on2 (p:=fun us=>bindArgs _ { pos:=us } = pure (List.zip _ us)) (fun _ _=>rfl) us hl
 have b__law_odd_says:=F__law_odd_says.binds (ps:=["_law_a","_law_b"]) fun _ _ _ _ _ _ us hl=>on2 (p:=fun us=>bindArgs _ { pos:=us } = pure (List.zip _ us)) (fun _ _=>rfl) us hl
 have b__law_odd_tells:=F__law_odd_tells.binds (ps:=["_law_a","_law_b"]) fun _ _ _ _ _ _ us hl=>on2 (p:=fun us=>bindArgs _ { pos:=us } = pure (List.zip _ us)) (fun _ _=>rfl) us hl
 have b__law_spoiled:=F__law_spoiled.binds (ps:=["_law_line_here","_law_cell_here"]) fun _ _ _ _ _ _ us hl=>on2 (p:=fun us=>bindArgs _ { pos:=us } = pure (List.zip _ us)) (fun _ _=>rfl) us hl
 have b__law_odd:=F__law_odd.binds (ps:=["_law_script","_law_at","_law_lines_here"]) fun _ _ _ _ _ _ us hl=>on3 (p:=fun us=>bindArgs _ { pos:=us } = pure (List.zip _ us)) (fun _ _ _=>rfl) us hl
 have b__law_changed:=F__law_changed.binds (ps:=["_law_script","_law_at","_law_lines_here"]) fun _ _ _ _ _ _ us hl=>on3 (p:=fun us=>bindArgs _ { pos:=us } = pure (List.zip _ us)) (fun _ _ _=>rfl) us hl
 have b__law_due:=F__law_due.binds (ps:=["_law_lines_here"]) fun _ _ _ _ _ _ us hl=>on1 (p:=fun us=>bindArgs _ { pos:=us } = pure (List.zip _ us)) (fun _=>rfl) us hl
 have b__law_told:=F__law_told.binds (ps:=["_law_text"]) fun _ _ _ _ _ _ us hl=>on1 (p:=fun us=>bindArgs _ { pos:=us } = pure (List.zip _ us)) (fun _=>rfl) us hl
 have b__law_right:=F__law_right.binds (ps:=["_law_lines_here"]) fun _ _ _ _ _ _ us hl=>on1 (p:=fun us=>bindArgs _ { pos:=us } = pure (List.zip _ us)) (fun _=>rfl) us hl
 refine ⟨PySem.W.fnOf "law" "law" (defArgs s_law) (defBody s_law) (defScope s_law) .none kV40 dc40 pm40 an40 cd40 ct40,fun s v=>.of_eq rfl,fun base _ _=>?_⟩
 have T : Nm mg:=⟨nz_len,nz_range,nz_int,nz_tuple,nz_list,nz_max,nz_min,nz_isinstance⟩
 have TW : Tw K mg:=⟨nz_len,nz_isinstance,nz_str,nz_all,nz_tuple,nz_enumerate,⟨_,ng_MOST_SIGNS⟩,⟨_,ng_WORD_SIGNS⟩,⟨_,ng_MOST_WORDS⟩,⟨_,ng_MOST_PHRASE_WORDS⟩,⟨_,ng_MOST_BENDS⟩,⟨_,ng_DEEPEST_PART⟩,kS⟩
 have TSc : Ts K mg CS:=⟨ny_SCOPES,scs_sq ⟨oSc,hSc,hSp⟩⟩
 have TNw : TN K mg CN:=⟨ny_NoWord,vN,wN⟩
 have TFw : TF K mg CF:=⟨ny_NoForm,vF,wF⟩
 have TRr : TR K mg CR CD CE fI:=⟨ny_NoRow,ny_TooDeep,ny_NoEnd,⟨jX,jI,tI⟩,vD,vE,⟨s1,s2,s3,s4⟩⟩
 have TTt : TT K mg CR CD CE CN CF CG:=⟨ny_NoRow,ny_TooDeep,ny_NoEnd,ny_NoWord,ny_NoForm,ny_GlossError,nz_ValueError,nz_isinstance,⟨pRx,pRe,pRr,pRd,pRn,pRv,pRw,pRf⟩,⟨pDx,pDe,pDr,pDd,pDn,pDv,pDw,pDf⟩,⟨pEx,pEe,pEr,pEd,pEn,pEv,pEw,pEf⟩,s2,s5⟩
 have TYy : Ty K mg:=⟨nz_isinstance,nz_bool,nz_int,kb,ki⟩
 have F_init:=fun_mk (st:=s_init) lI cI kI
 have b_init:=F_init.binds (ps:=["self","row"]) fun _ _ _ _ _ _ us hl=>on2 (p:=fun us=>bindArgs _ { pos:=us } = pure (List.zip _ us)) (fun _ _=>rfl) us hl
 have GC:=Def.mk' (ok_cell (P:=l.prog) (w:=w) (base:=base) F__law_cell T.len) b__law_cell k19 (PySem.W.mg_of X G a19)
 have GX:=Def.mk' (ok_mixed (P:=l.prog) (w:=w) (base:=base) F__law_mixed) b__law_mixed k20 (PySem.W.mg_of X G a20)
 have GM:=Def.mk' (ok_menu F__law_menu T GC GX) b__law_menu k21 (PySem.W.mg_of X G a21)
 have GPW:=Def.mk' (ok_plain (P:=l.prog) (w:=w) (base:=base) F__law_plain_words T) b__law_plain_words k22 (PySem.W.mg_of X G a22)
 have GR:=Def.mk' (ok_row F__law_row T GX) b__law_row k23 (PySem.W.mg_of X G a23)
 have GB:=Def.mk' (ok_bends F__law_bends T GX) b__law_bends k24 (PySem.W.mg_of X G a24)
 have GH:=Def.mk' (ok_thing F__law_thing T GX GR GB) b__law_thing k25 (PySem.W.mg_of X G a25)
 have GN:=Def.mk' (ok_num F__law_number GC) b__law_number k26 (PySem.W.mg_of X G a26)
 have GE:=Def.mk' (ok_ended (P:=l.prog) (w:=w) (base:=base) F__law_ended T) b__law_ended k27 (PySem.W.mg_of X G a27)
 have GD:=Def.mk' (ok_doc F__law_document T GC GM GPW GN GH GE) b__law_document k28 (PySem.W.mg_of X G a28)
 have GTX:=Def.mk' (ok_text (P:=l.prog) (w:=w) (base:=base) F_text_of) b_text_of k3 (PySem.W.mg_of X G a3)
 have GTR:=Def.mk' (ok_trow F_telling_row GTX) b_telling_row k6 (PySem.W.mg_of X G a6)
 have GRW:=Def.mk' (ok_rows F_rows_within b_rows_within k7 (PySem.W.mg_of X G a7) GTX GTR 11) b_rows_within k7 (PySem.W.mg_of X G a7)
 have GWR:=Def.mk' (ok_written F_written GRW) b_written k8 (PySem.W.mg_of X G a8)
 have GLN:=Def.mk' (ok_line (P:=l.prog) (w:=w) (base:=base) F__law_line) b__law_line k29 (PySem.W.mg_of X G a29)
 have GLS:=Def.mk' (ok_lines F__law_lines T GLN) b__law_lines k30 (PySem.W.mg_of X G a30)
 have GIW:=Def.mk' (ok_word (P:=l.prog) (w:=w) (base:=base) F_is_word TW) b_is_word k1 (PySem.W.mg_of X G a1)
 have GWO:=Def.mk' (ok_wow F_words_of TW TNw GIW) b_words_of k2 (PySem.W.mg_of X G a2)
 have GRWS:=Def.mk' (ok_rww F_read_words TW TNw GWO) b_read_words k9 (PySem.W.mg_of X G a9)
 have GRB:=Def.mk' (ok_rbx F_read_bend TW GIW) b_read_bend k10 (PySem.W.mg_of X G a10)
 have GRPB:=Def.mk' (ok_rpbw F_read_phrase_and_bends TW GIW GRB) b_read_phrase_and_bends k11 (PySem.W.mg_of X G a11)
 have GBT:=Def.mk' (ok_bentW F_bent TW TFw GIW) b_bent k4 (PySem.W.mg_of X G a4)
 have GFM:=Def.mk' (ok_formsW F_forms TW TFw GBT) b_forms k5 (PySem.W.mg_of X G a5)
 have GHF:=Def.mk' (ok_hasW F_has_forms TFw GFM) b_has_forms k12 (PySem.W.mg_of X G a12)
 have GRS:=Def.mk' (ok_rsw F_read_say GRWS) b_read_say k13 (PySem.W.mg_of X G a13)
 have GRT:=Def.mk' (ok_rtw F_read_telling TW TSc GRPB GRWS GHF) b_read_telling k14 (PySem.W.mg_of X G a14)
 have GRR:=Def.mk' (ok_rrw F_read_row TW GRS GRT) b_read_row k15 (PySem.W.mg_of X G a15)
 have GCR:=Def.mk' (ok_cirw (P:=l.prog) (w:=w) (base:=base) F_cut_in_rows) b_cut_in_rows k16 (PySem.W.mg_of X G a16)
 have GEP:=Def.mk' (ok_ep (P:=l.prog) (w:=w) (base:=base) F_end_part TW) b_end_part k17 (PySem.W.mg_of X G a17)
 have FI:=ok_init (P:=l.prog) (w:=w) (mg:=mg) (base:=base) F_init
 have GRD:=Def.mk' (ok_readw F_read TW TRr FI b_init GCR GEP GRR) b_read k18 (PySem.W.mg_of X G a18)
 have GMY:=Def.mk' (ok_many (P:=l.prog) (w:=w) (base:=base) F__law_many T) b__law_many k31 (PySem.W.mg_of X G a31)
 have GSY:=Def.mk' (ok_says F__law_odd_says GMY) b__law_odd_says k32 (PySem.W.mg_of X G a32)
 have GTL:=Def.mk' (ok_tells F__law_odd_tells GMY) b__law_odd_tells k33 (PySem.W.mg_of X G a33)
 have GSP:=Def.mk' (ok_spoil (P:=l.prog) (w:=w) (base:=base) F__law_spoiled T) b__law_spoiled k34 (PySem.W.mg_of X G a34)
 have GOD:=Def.mk' (ok_odd F__law_odd T GC GM GPW GSP GSY GTL) b__law_odd k35 (PySem.W.mg_of X G a35)
 have GCH:=Def.mk' (ok_changed F__law_changed T GC GOD) b__law_changed k36 (PySem.W.mg_of X G a36)
 have GDU:=Def.mk' (ok_due (P:=l.prog) (w:=w) (base:=base) F__law_due T) b__law_due k37 (PySem.W.mg_of X G a37)
 have GTO:=Def.mk' (ok_told F__law_told TTt GRD) b__law_told k38 (PySem.W.mg_of X G a38)
 have GRI:=Def.mk' (ok_right F__law_right TYy GTO GDU GRD GWR) b__law_right k39 (PySem.W.mg_of X G a39)
 exact ok_law F_law T GC GD GLS GCH GRI
theorem walk {l : PySem.W.OpenLaw} {q : Program} {loose : List Str} {XP : (Str -> Option Value) -> Heap -> Prop} {YP : World -> Heap -> Prop} {d : DefRec} {K : Params -> PySem.W.Frag} (hn : l.most = some 63) (hdf : d.params.defaults = [])
  (hY : ∀ (w : World) (h : Heap),YP w h -> (K w.params).In h)
  (F : ∀ (w : World) (mg : Str -> Option Value) (fa : Addr) (h : Heap),(K w.params).In h -> h.Ns mainGlobals mg -> mg d.name = some (.ref fa) ->
   ∃ fd : FuncData,(∀ (s : Shared) (u : Value),BindsTo s fd ⟨[u],[]⟩ [("_law_script",u)]) /\ ∀ base : Heap,(K w.params).In base -> base.Ns mainGlobals mg -> FnOk l.prog w (K w.params) mg base CX0 16 fa fd ["_law_script"] (spLaw (K w.params))) :
  PySem.W.WalkO q loose XP YP l.row.toRowW d [] (fun f vs=>PySem.call f vs) :=
 L2.walk_of (n:=63) (k:=16) (x:="_law_script") (CX:=fun _=>CX0) (sp:=fun w=>(spLaw (K w.params))) hn (by decide) hdf ⟨rfl,by decide,by decide,rfl⟩ hY F (fun _ _ a ns hl _ hS=>⟨a,ns,rfl,hS,hl,fun _=>rfl⟩) fun _ _ _ _ _ z=>z
end D
def PySem.W.Fast.tw4229943826760783826 : Nat := 0
def PySem.W.Fast.tw7969155837042656248 : Nat := 0
def PySem.W.Fast.tw2688528675445889794 : Nat := 0
def PySem.W.Fast.tw7771753282767890042 : Nat := 0
def PySem.W.Fast.tw2407715737003996699 : Nat := 0
def PySem.W.Fast.tw17398041293413461839 : Nat := 0
def PySem.W.Fast.tw13398775431558785834 : Nat := 0
def PySem.W.Fast.tw2161576323123094295 : Nat := 0
def PySem.W.Fast.tw1391153384082953892 : Nat := 0
def PySem.W.Fast.tw12465510235095158598 : Nat := 0
def PySem.W.Fast.tw15452271962859743946 : Nat := 0
def PySem.W.Fast.tw2356717636699890094 : Nat := 0
def PySem.W.Fast.tw3924620087459770639 : Nat := 0
def PySem.W.Fast.tw7046519021106827552 : Nat := 0
def PySem.W.Fast.tw13642952825355005386 : Nat := 0
def PySem.W.Fast.tw15520397487575240094 : Nat := 0
def PySem.W.Fast.tw15944178682151062187 : Nat := 0
def PySem.W.Fast.tw1169896931298505556 : Nat := 0
def PySem.W.Fast.tw10582437138770400981 : Nat := 0
open PySem PySem.W PyProof.Rows
set_option maxRecDepth 100000 in
set_option maxHeartbeats 0 in
theorem PySem.Challenge.cw_gloss_k17_rows_refused_holds : PySem.Challenge.rw_gloss_k17_rows_refused.Holds := by
  w_on; o_law; k_head; (case hw => w_witness2)
  k_fill
  refine D.walk (l := PySem.Challenge.rw_gloss_k17_rows_refused) rfl rfl (fun w h Y => PySem.W.kIn_of Y) ?F
  case F =>
    intro w mg fa h KX G hmg
    refine' D.all_mk KX G hmg ?a1 ?l1 ?c1 ?k1 ?a2 ?l2 ?c2 ?k2 ?a3 ?l3 ?c3 ?k3 ?a4 ?l4 ?c4 ?k4 ?a5 ?l5 ?c5 ?k5 ?a6 ?l6 ?c6 ?k6 ?a7 ?l7 ?c7 ?k7 ?a8 ?l8 ?c8 ?k8 ?a9 ?l9 ?c9 ?k9 ?a10 ?l10 ?c10 ?k10 ?a11 ?l11 ?c11 ?k11 ?a12 ?l12 ?c12 ?k12 ?a13 ?l13 ?c13 ?k13 ?a14 ?l14 ?c14 ?k14 ?a15 ?l15 ?c15 ?k15 ?a16 ?l16 ?c16 ?k16 ?a17 ?l17 ?c17 ?k17 ?a18 ?l18 ?c18 ?k18 ?a19 ?l19 ?c19 ?k19 ?a20 ?l20 ?c20 ?k20 ?a21 ?l21 ?c21 ?k21 ?a22 ?l22 ?c22 ?k22 ?a23 ?l23 ?c23 ?k23 ?a24 ?l24 ?c24 ?k24 ?a25 ?l25 ?c25 ?k25 ?a26 ?l26 ?c26 ?k26 ?a27 ?l27 ?c27 ?k27 ?a28 ?l28 ?c28 ?k28 ?a29 ?l29 ?c29 ?k29 ?a30 ?l30 ?c30 ?k30 ?a31 ?l31 ?c31 ?k31 ?a32 ?l32 ?c32 ?k32 ?a33 ?l33 ?c33 ?k33 ?a34 ?l34 ?c34 ?k34 ?a35 ?l35 ?c35 ?k35 ?a36 ?l36 ?c36 ?k36 ?a37 ?l37 ?c37 ?k37 ?a38 ?l38 ?c38 ?k38 ?a39 ?l39 ?c39 ?k39 ?a40 ?l40 ?c40 ?k40 ?g1 ?g2 ?g3 ?g4 ?g5 ?g6 ?z1 ?z2 ?z3 ?z4 ?z5 ?z6 ?z7 ?z8 ?z9 ?z10 ?z11 ?z12 ?z13 ?y1 ?y2 ?y3 ?y4 ?y5 ?y6 ?y7 ?kS ?kb ?ki ?hSc ?hSp ?jI ?lI ?cI ?kI ?tI ?jX ?vN ?vF ?vD ?vE ?wN ?wF ?s1 ?s2 ?s3 ?s4 ?s5 ?pRx ?pRe ?pRr ?pRd ?pRn ?pRv ?pRw ?pRf ?pDx ?pDe ?pDr ?pDd ?pDn ?pDv ?pDw ?pDf ?pEx ?pEe ?pEr ?pEd ?pEn ?pEv ?pEw ?pEf
    (case a1 => k_is); (case l1 => k_is); (case c1 => k_is); (case k1 => k_is)
    (case a2 => k_is); (case l2 => k_is); (case c2 => k_is); (case k2 => k_is)
    (case a3 => k_is); (case l3 => k_is); (case c3 => k_is); (case k3 => k_is)
    (case a4 => k_is); (case l4 => k_is); (case c4 => k_is); (case k4 => k_is)
    (case a5 => k_is); (case l5 => k_is); (case c5 => k_is); (case k5 => k_is)
    (case a6 => k_is); (case l6 => k_is); (case c6 => k_is); (case k6 => k_is)
    (case a7 => k_is); (case l7 => k_is); (case c7 => k_is); (case k7 => k_is)
    (case a8 => k_is); (case l8 => k_is); (case c8 => k_is); (case k8 => k_is)
    (case a9 => k_is); (case l9 => k_is); (case c9 => k_is); (case k9 => k_is)
    (case a10 => k_is); (case l10 => k_is); (case c10 => k_is); (case k10 => k_is)
    (case a11 => k_is); (case l11 => k_is); (case c11 => k_is); (case k11 => k_is)
    (case a12 => k_is); (case l12 => k_is); (case c12 => k_is); (case k12 => k_is)
    (case a13 => k_is); (case l13 => k_is); (case c13 => k_is); (case k13 => k_is)
    (case a14 => k_is); (case l14 => k_is); (case c14 => k_is); (case k14 => k_is)
    (case a15 => k_is); (case l15 => k_is); (case c15 => k_is); (case k15 => k_is)
    (case a16 => k_is); (case l16 => k_is); (case c16 => k_is); (case k16 => k_is)
    (case a17 => k_is); (case l17 => k_is); (case c17 => k_is); (case k17 => k_is)
    (case a18 => k_is); (case l18 => k_is); (case c18 => k_is); (case k18 => k_is)
    (case a19 => k_is); (case l19 => k_is); (case c19 => k_is); (case k19 => k_is)
    (case a20 => k_is); (case l20 => k_is); (case c20 => k_is); (case k20 => k_is)
    (case a21 => k_is); (case l21 => k_is); (case c21 => k_is); (case k21 => k_is)
    (case a22 => k_is); (case l22 => k_is); (case c22 => k_is); (case k22 => k_is)
    (case a23 => k_is); (case l23 => k_is); (case c23 => k_is); (case k23 => k_is)
    (case a24 => k_is); (case l24 => k_is); (case c24 => k_is); (case k24 => k_is)
    (case a25 => k_is); (case l25 => k_is); (case c25 => k_is); (case k25 => k_is)
    (case a26 => k_is); (case l26 => k_is); (case c26 => k_is); (case k26 => k_is)
    (case a27 => k_is); (case l27 => k_is); (case c27 => k_is); (case k27 => k_is)
    (case a28 => k_is); (case l28 => k_is); (case c28 => k_is); (case k28 => k_is)
    (case a29 => k_is); (case l29 => k_is); (case c29 => k_is); (case k29 => k_is)
    (case a30 => k_is); (case l30 => k_is); (case c30 => k_is); (case k30 => k_is)
    (case a31 => k_is); (case l31 => k_is); (case c31 => k_is); (case k31 => k_is)
    (case a32 => k_is); (case l32 => k_is); (case c32 => k_is); (case k32 => k_is)
    (case a33 => k_is); (case l33 => k_is); (case c33 => k_is); (case k33 => k_is)
    (case a34 => k_is); (case l34 => k_is); (case c34 => k_is); (case k34 => k_is)
    (case a35 => k_is); (case l35 => k_is); (case c35 => k_is); (case k35 => k_is)
    (case a36 => k_is); (case l36 => k_is); (case c36 => k_is); (case k36 => k_is)
    (case a37 => k_is); (case l37 => k_is); (case c37 => k_is); (case k37 => k_is)
    (case a38 => k_is); (case l38 => k_is); (case c38 => k_is); (case k38 => k_is)
    (case a39 => k_is); (case l39 => k_is); (case c39 => k_is); (case k39 => k_is)
    (case a40 => k_is); (case l40 => k_is); (case c40 => k_is); (case k40 => k_is)
    (case g1 => k_is); (case g2 => k_is); (case g3 => k_is); (case g4 => k_is); (case g5 => k_is); (case g6 => k_is)
    (case z1 => k_is); (case z2 => k_is); (case z3 => k_is); (case z4 => k_is); (case z5 => k_is); (case z6 => k_is); (case z7 => k_is); (case z8 => k_is); (case z9 => k_is); (case z10 => k_is); (case z11 => k_is); (case z12 => k_is); (case z13 => k_is)
    (case y1 => k_is); (case y2 => k_is); (case y3 => k_is); (case y4 => k_is); (case y5 => k_is); (case y6 => k_is); (case y7 => k_is)
    (case kS => kernel_rfl)
    (case kb => kernel_rfl)
    (case ki => kernel_rfl)
    (case hSc => k_is)
    (case hSp => first | exact D.scs_mk (by decide +kernel) (by decide +kernel) (by decide +kernel) (by decide +kernel) | exact ⟨rfl, _, _, rfl, by decide, .cons (D.rel_str (by decide +kernel)) (.cons (D.rel_str (by decide +kernel)) (.cons (D.rel_str (by decide +kernel)) (.cons (D.rel_str (by decide +kernel)) .nil)))⟩ | (unfold D.ScObj; trace_state; fail))
    (case jI => k_is)
    (case lI => k_is)
    (case cI => k_is)
    (case kI => k_is)
    (case tI => k_is)
    (case jX => kernel_rfl)
    (case vN => kernel_rfl)
    (case vF => kernel_rfl)
    (case vD => kernel_rfl)
    (case vE => kernel_rfl)
    (case wN => kernel_rfl)
    (case wF => kernel_rfl)
    (case s1 => k_is)
    (case s2 => k_is)
    (case s3 => k_is)
    (case s4 => kernel_rfl)
    (case s5 => kernel_rfl)
    (case pRx => exact ⟨by kernel_rfl, by k_is, by k_is, by k_is, by k_is, by k_is, by k_is, by k_is⟩)
    (case pRe => kernel_rfl)
    (case pRr => kernel_rfl)
    (case pRd => kernel_rfl)
    (case pRn => kernel_rfl)
    (case pRv => kernel_rfl)
    (case pRw => kernel_rfl)
    (case pRf => kernel_rfl)
    (case pDx => exact ⟨by kernel_rfl, by k_is, by k_is, by k_is, by k_is, by k_is, by k_is, by k_is⟩)
    (case pDe => kernel_rfl)
    (case pDr => kernel_rfl)
    (case pDd => kernel_rfl)
    (case pDn => kernel_rfl)
    (case pDv => kernel_rfl)
    (case pDw => kernel_rfl)
    (case pDf => kernel_rfl)
    (case pEx => exact ⟨by kernel_rfl, by k_is, by k_is, by k_is, by k_is, by k_is, by k_is, by k_is⟩)
    (case pEe => kernel_rfl)
    (case pEr => kernel_rfl)
    (case pEd => kernel_rfl)
    (case pEn => kernel_rfl)
    (case pEv => kernel_rfl)
    (case pEw => kernel_rfl)
    (case pEf => kernel_rfl)

