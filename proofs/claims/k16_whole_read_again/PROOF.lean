import PyProof.Rows.All
import Wide.All
import OpenK.AllK
import Wide.FinOn
import Lean
import PyProof.EqAt
import PyProof.EqKinds
import PyProof.TupleCall
import PyProof.ZipIter
import PyProof.Draws
import PyProof.StrOps2
import KE.KLcPair
import KE.KDictLaws
import PyProof.ListMulRoad
import PyProof.EnumMake
import PyProof.EnumFor
import PySem.Challenge.RW_gloss_k16_whole_read_again

set_option Elab.async false
set_option linter.all false
set_option maxRecDepth 100000
set_option genSizeOf false
set_option genSizeOfSpec false
namespace L2
open PySem PySem.Spec PyProof.Rows
abbrev Key := Sum Int Str
def keyIs : Key → Value → Bool
  | .inl k, v => Value.isInt k v
  | .inr x, v => Value.isStrOf x v
def keyH (w : World) : Key → Int
  | .inl k => hashInt k
  | .inr x => hashStr w x
theorem keyIs_shape : ∀ {k : Key} {v : Value}, keyIs k v = true → (∃ i t, k = Sum.inl i ∧ v = Value.int i t) ∨ (∃ x t, k = Sum.inr x ∧ v = Value.str x t)
  | .inl i, v, h => by
    obtain ⟨t, e⟩ := Value.isInt_shape (k := i) (v := v) h
    exact .inl ⟨i, t, rfl, e⟩
  | .inr x, v, h => by
    obtain ⟨t, e⟩ := Value.isStrOf_shape (x := x) (v := v) h
    exact .inr ⟨x, t, rfl, e⟩
theorem key_ll (a b : Int) : decide ((Sum.inl a : Key) = Sum.inl b) = (a == b) := by
  by_cases e : a = b
  · subst e; simp
  · have h : ¬ (Sum.inl a : Key) = Sum.inl b := fun q => e (Sum.inl.inj q)
    rw [decide_eq_false h]
    exact (beq_eq_false_iff_ne.mpr e).symm
theorem key_rr (a b : Str) : decide ((Sum.inr a : Key) = Sum.inr b) = decide (a = b) := by
  by_cases e : a = b
  · subst e; simp
  · have h : ¬ (Sum.inr a : Key) = Sum.inr b := fun q => e (Sum.inr.inj q)
    rw [decide_eq_false h, decide_eq_false e]
theorem key_lr (a : Int) (b : Str) : decide ((Sum.inl a : Key) = Sum.inr b) = false := decide_eq_false (fun q => nomatch q)
theorem key_rl (a : Str) (b : Int) : decide ((Sum.inr a : Key) = Sum.inl b) = false := decide_eq_false (fun q => nomatch q)
def mixKind (prog : Program) (w : World) : PySem.KeyKind prog w Key where
  is := keyIs
  hash := keyH w
  inj := fun v a b ha hb => by
    rcases keyIs_shape ha with ⟨i, t, rfl, rfl⟩ | ⟨x, t, rfl, rfl⟩
    · rcases keyIs_shape hb with ⟨j, u, rfl, e⟩ | ⟨y, u, rfl, e⟩
      · injection e with e1 _; rw [e1]
      · exact nomatch e
    · rcases keyIs_shape hb with ⟨j, u, rfl, e⟩ | ⟨y, u, rfl, e⟩
      · exact nomatch e
      · injection e with e1 _; rw [e1]
  byValue := fun k v h => by
    rcases keyIs_shape h with ⟨i, t, rfl, rfl⟩ | ⟨x, t, rfl, rfl⟩ <;> rfl
  pyHash := fun hv h => by
    rcases keyIs_shape hv with ⟨i, t, rfl, rfl⟩ | ⟨x, t, rfl, rfl⟩
    · exact wpAny_pyHash_int h
    · exact wpAny_pyHash_str h
  eqBool := fun hu hv h => by
    rcases keyIs_shape hu with ⟨i, t, rfl, rfl⟩ | ⟨x, t, rfl, rfl⟩
    · rcases keyIs_shape hv with ⟨j, u, rfl, rfl⟩ | ⟨y, u, rfl, rfl⟩
      · rw [key_ll] at h; exact wpAny_eqBool_int h
      · rw [key_lr] at h; exact SeqAt.EqAt.int_str i t y u _ _ _ _ h
    · rcases keyIs_shape hv with ⟨j, u, rfl, rfl⟩ | ⟨y, u, rfl, rfl⟩
      · rw [key_rl] at h; exact SeqAt.EqAt.str_int x t j u _ _ _ _ h
      · rw [key_rr] at h; exact wpAny_eqBool_str h
  «strs» := fun k x t v h => by
    rcases keyIs_shape h with ⟨i, u, rfl, e⟩ | ⟨y, u, rfl, e⟩
    · exact nomatch e
    · injection e with e1 _
      subst e1
      cases v <;> rfl
end L2
namespace L2
open PySem PySem.Spec PyProof.Rows
inductive V where
  | non | bl (b : Bool) | int (i : Int) | str (x : Str) | byt (b : Array UInt8) | flt (b : UInt64) | ref (a : Addr) | ty (n : String)
  deriving DecidableEq
def RelV : V → Value → Prop
  | .non, u => u = Value.none
  | .bl b, u => u = Value.bool b
  | .int i, u => ∃ t, u = Value.int i t
  | .str x, u => ∃ t, u = Value.str x t
  | .byt b, u => ∃ t, u = Value.bytes b t
  | .flt b, u => ∃ t, u = Value.float b t
  | .ref a, u => u = Value.ref a
  | .ty n, u => u = Value.type n
abbrev Vals : List V → List Value → Prop := Paired RelV
theorem Vals.length {xs : List V} {us : List Value} (r : Vals xs us) : xs.length = us.length := Paired.length r
theorem Vals.get : ∀ {xs : List V} {us : List Value} {i : Nat} {x : V}, Vals xs us → xs[i]? = some x → ∃ u, us[i]? = some u ∧ RelV x u
  | _, _, _, _, .nil, e => by simp at e
  | _, _, 0, _, .cons r _, e => by simp at e; subst e; exact ⟨_, rfl, r⟩
  | _, _, i + 1, x, .cons _ t, e => by
    obtain ⟨u, h1, h2⟩ := Vals.get (i := i) (x := x) t (by simpa using e)
    exact ⟨u, by simpa using h1, h2⟩
theorem Vals.set {x : V} {u : Value} (r : RelV x u) : ∀ {xs : List V} {us : List Value} (i : Nat), Vals xs us → Vals (xs.set i x) (us.set i u)
  | _, _, _, .nil => .nil
  | _, _, 0, .cons _ t => .cons r t
  | _, _, i + 1, .cons q t => .cons q (Vals.set r i t)
theorem Vals.append : ∀ {xs ys : List V} {us ws : List Value}, Vals xs us → Vals ys ws → Vals (xs ++ ys) (us ++ ws)
  | _, _, _, _, .nil, s => s
  | _, _, _, _, .cons r t, s => .cons r (Vals.append t s)
theorem Vals.take : ∀ {xs : List V} {us : List Value} (n : Nat), Vals xs us → Vals (xs.take n) (us.take n)
  | _, _, 0, _ => .nil
  | _, _, _ + 1, .nil => .nil
  | _, _, n + 1, .cons r t => .cons r (Vals.take n t)
theorem Vals.drop : ∀ {xs : List V} {us : List Value} (n : Nat), Vals xs us → Vals (xs.drop n) (us.drop n)
  | _, _, 0, r => r
  | _, _, _ + 1, .nil => .nil
  | _, _, n + 1, .cons _ t => Vals.drop n t
def RelO : Option V → Option Value → Prop
  | some v, some u => RelV v u
  | none, none => True
  | _, _ => False
def KV {κ : Type} : List (κ × V) → List (κ × Value) → Prop := Paired fun (p : κ × V) (q : κ × Value) => p.1 = q.1 ∧ RelV p.2 q.2
def kV : Key → V
  | .inl i => .int i
  | .inr x => .str x
inductive HO where
  | lst (xs : List V)
  | tup (xs : List V)
  | dK (kvs : List (Key × V)) | dT (kvs : List (List Key × V))
  | set (S : Int → Bool) (n : Nat)
  | ins (C dx : Addr) (fs : List (Str × V))
  | own (x : Addr)
  | xd (fs : List (Str × V))
  | met (f x : Addr)
  | rng (lo hi : Int)
  | frz (o : Obj) (u : HO)
  | tbl (ps : Array Value)
  | ext (φ : Heap → Prop)
abbrev Hp := Addr → Option HO
def upd (H : Hp) (a : Addr) (o : HO) : Hp := fun b => if b = a then some o else H b
theorem upd_same {H : Hp} {a : Addr} {o : HO} : upd H a o a = some o := by unfold upd; rw [if_pos rfl]
theorem upd_ne {H : Hp} {a b : Addr} {o : HO} (h : b ≠ a) : upd H a o b = H b := by unfold upd; rw [if_neg h]
theorem ne_of_none {H : Hp} {a b : Addr} {o : HO} (h : H a = some o) (h' : H b = none) : a ≠ b := by
  intro e; subst e; rw [h] at h'; cases h'
section
variable (P : Program) (w : World)
def ObjOk (H : Hp) (h : Heap) (a : Addr) : HO → Prop
  | .lst xs => xs.length ≤ sizeLine ∧ ∃ (its : List Value) (n : Nat), Vals xs its ∧ h.get? a = some { cls := .type "list", data := .seq its.toArray n }
  | .tup xs => xs.length ≤ sizeLine ∧ ∃ its : List Value, Vals xs its ∧ IsTup h a its.toArray
  | .dK kvs => kvs.length ≤ sizeLine ∧ (a == sysModules) = false ∧ ∃ vs, KV kvs vs ∧ h.DictOf (mixKind P w) a vs
  | .dT kvs => kvs.length ≤ sizeLine ∧ (a == sysModules) = false ∧ ∃ xs : List (List Key × Addr × Value),
      Paired (fun (p : List Key × V) (q : List Key × Addr × Value) => p.1 = q.1 ∧ H q.2.1 = some (.tup (p.1.map kV)) ∧ RelV p.2 q.2.2) kvs xs ∧
      ∃ o es ep, h.get? a = some o ∧ o.ExactDict ∧ o.data = .dict es ep ∧ es.toList = xs.map (entryOfKey (tupleKind (mixKind P w))) ∧ (xs.map (·.1)).Nodup
  | .set S n => h.SetOf (intKind P w) a S n
  | .ins C dx fs => H dx = some (.own a) ∧ fs.length ≤ 1000 ∧ dx ≠ a ∧ h.get? a = some (PySem.W.instObj C dx) ∧
      ∃ mA, h.Ns1 dx mA ∧ (∀ f, RelO (fs.lookup f) (mA f)) ∧ PySem.Within mA (fs.map (·.1))
  | .own _ => ∃ o, h.get? a = some o
  | .xd fs => ∃ mA, h.Ns1 a mA ∧ ∀ f, RelO (fs.lookup f) (mA f)
  | .rng lo hi => ∃ t u v, h.get? a = some { cls := .type "range", data := .fields #[.int lo t, .int hi u, .int 1 v] }
  | .frz o u => h.get? a = some o ∧ ObjOk H h a u
  | .tbl ps => h.get? a = some { cls := .none, data := .fields ps }
  | .met f x => h.get? a = some (PySem.W.methodObj (.ref f) (.ref x))
  | .ext φ => φ h ∧ (∃ o, h.get? a = some o) ∧ ∀ h1 h2 : Heap, φ h1 → (∀ o, h1.get? a = some o → h2.get? a = some o) → φ h2
def HOk (H : Hp) (h : Heap) : Prop := ∀ a o, H a = some o → ObjOk P w H h a o
end
section
variable {P : Program} {w : World} {H H' : Hp} {h h' : Heap} {a : Addr} {o : HO}
theorem ObjOk.lt (x : ObjOk P w H h a o) : a < h.objs.size := by
  cases o with
  | lst xs => obtain ⟨_, _, _, _, e⟩ := x; exact Heap.lt_size e
  | tup xs => obtain ⟨_, _, _, p⟩ := x; exact p.lt
  | dK kvs => obtain ⟨_, _, _, _, o, _, _, e, _⟩ := x; exact Heap.lt_size e
  | dT kvs => obtain ⟨_, _, _, _, o, _, _, e, _⟩ := x; exact Heap.lt_size e
  | set S n => obtain ⟨o, _, _, _, e, _⟩ := x; exact Heap.lt_size e
  | ins C dx fs => obtain ⟨_, _, _, e, _⟩ := x; exact Heap.lt_size e
  | own y => obtain ⟨_, e⟩ := x; exact Heap.lt_size e
  | xd fs => obtain ⟨_, ⟨_, _, _, e, _⟩, _⟩ := x; exact Heap.lt_size e
  | rng lo hi => obtain ⟨_, _, _, e⟩ := x; exact Heap.lt_size e
  | frz ob u => obtain ⟨e, _⟩ := x; exact Heap.lt_size e
  | tbl ps => exact Heap.lt_size (show h.get? a = some _ from x)
  | met f y => exact Heap.lt_size (show h.get? a = some _ from x)
  | ext φ => obtain ⟨_, ⟨_, e⟩, _⟩ := x; exact Heap.lt_size e
theorem Paired.mapP {α β : Type} {F G : α → β → Prop} : ∀ {l₁ : List α} {l₂ : List β}, Paired F l₁ l₂ → (∀ a b, F a b → G a b) → Paired G l₁ l₂
  | _, _, .nil, _ => .nil
  | _, _, .cons r t, f => .cons (f _ _ r) (Paired.mapP t f)
theorem ObjOk.stay (x : ObjOk P w H h a o) (k : ∀ b u, (b = a ∨ H b = some (.own a)) → h.get? b = some u → h'.get? b = some u)
    (ho : ∀ b, H b = some (.own a) → H' b = some (.own a)) (ht : ∀ b xs, H b = some (.tup xs) → H' b = some (.tup xs)) : ObjOk P w H' h' a o := by
  induction o with
  | lst xs => obtain ⟨z, its, n, r, e⟩ := x; exact ⟨z, its, n, r, k _ _ (.inl rfl) e⟩
  | tup xs => obtain ⟨z, its, r, ob, e, c⟩ := x; exact ⟨z, its, r, ob, k _ _ (.inl rfl) e, c⟩
  | dK kvs => obtain ⟨z, y, vs, r, ob, es, ep, e, c⟩ := x; exact ⟨z, y, vs, r, ob, es, ep, k _ _ (.inl rfl) e, c⟩
  | dT kvs =>
    obtain ⟨z, y, xs, r, ob, es, ep, e, c⟩ := x
    exact ⟨z, y, xs, Paired.mapP r fun p q z => ⟨z.1, ht _ _ z.2.1, z.2.2⟩, ob, es, ep, k _ _ (.inl rfl) e, c⟩
  | set S n => obtain ⟨ob, es, ep, t, e, c⟩ := x; exact ⟨ob, es, ep, t, k _ _ (.inl rfl) e, c⟩
  | ins C dx fs =>
    obtain ⟨d, z, ne, e, mA, ⟨od, es, ep, e2, c⟩, r⟩ := x
    exact ⟨ho _ d, z, ne, k _ _ (.inl rfl) e, mA, ⟨od, es, ep, k _ _ (.inr d) e2, c⟩, r⟩
  | own y => obtain ⟨ob, e⟩ := x; exact ⟨ob, k _ _ (.inl rfl) e⟩
  | xd fs => obtain ⟨mA, ⟨od, es, ep, e, c⟩, r⟩ := x; exact ⟨mA, ⟨od, es, ep, k _ _ (.inl rfl) e, c⟩, r⟩
  | rng lo hi => obtain ⟨t, u, v, e⟩ := x; exact ⟨t, u, v, k _ _ (.inl rfl) e⟩
  | frz ob u ih => obtain ⟨e, q⟩ := x; exact ⟨k _ _ (.inl rfl) e, ih q⟩
  | tbl ps =>
    have e : h.get? a = some { cls := .none, data := .fields ps } := x
    show h'.get? a = some { cls := .none, data := .fields ps }
    exact k a _ (.inl rfl) e
  | met f y =>
    have e : h.get? a = some (PySem.W.methodObj (.ref f) (.ref y)) := x
    show h'.get? a = some (PySem.W.methodObj (.ref f) (.ref y))
    exact k a _ (.inl rfl) e
  | ext φ => obtain ⟨p, ⟨o, e⟩, st⟩ := x; exact ⟨st _ _ p fun o q => k _ _ (.inl rfl) q, ⟨o, k _ _ (.inl rfl) e⟩, st⟩
theorem HOk.lt (x : HOk P w H h) (e : H a = some o) : a < h.objs.size := (x a o e).lt
theorem HOk.fresh (x : HOk P w H h) (e : h.objs.size ≤ a) : H a = none := by
  cases q : H a with
  | none => rfl
  | some u => exact absurd (Nat.lt_of_lt_of_le (x.lt q) e) (Nat.lt_irrefl _)
theorem HOk.kept (x : HOk P w H h) (k : ∀ b u, h.get? b = some u → h'.get? b = some u) : HOk P w H h' := fun a o e =>
  (x a o e).stay (fun b u _ q => k b u q) (fun _ q => q) fun _ _ q => q
theorem HOk.laid (x : HOk P w H h) (k : ∀ b u, h.get? b = some u → h'.get? b = some u) (hp : h.objs.size ≤ a) (new : ObjOk P w (upd H a o) h' a o) : HOk P w (upd H a o) h' := fun b u e => by
  have hn := x.fresh hp
  by_cases hb : b = a
  · subst hb; rw [upd_same] at e; cases e; exact new
  · rw [upd_ne hb] at e
    exact (x b u e).stay (fun c v _ q => k c v q) (fun c q => by rw [upd_ne (ne_of_none q hn)]; exact q) fun c xs q => by rw [upd_ne (ne_of_none q hn)]; exact q
end
def Rd (H : Hp) (a : Addr) (u : HO) : Prop := H a = some u ∨ ∃ o, H a = some (.frz o u)
theorem Rd.of {H : Hp} {a : Addr} {u : HO} (h : H a = some u) : Rd H a u := .inl h
theorem Rd.ok {P : Program} {w : World} {H : Hp} {h : Heap} {a : Addr} {u : HO} (r : Rd H a u) (x : HOk P w H h) : ObjOk P w H h a u := by
  rcases r with r | ⟨o, r⟩
  · exact x a u r
  · obtain ⟨_, q⟩ := x a _ r
    exact q
def Mut : Option HO → Prop
  | some (.lst _) => True
  | some (.dK _) => True
  | some (.dT _) => True
  | some (.set _ _) => True
  | some (.ins _ _ _) => True
  | some (.ext _) => True
  | _ => False
section
variable {P : Program} {w : World} {H : Hp} {h h' : Heap} {x e : Addr} {o' : HO}
theorem HOk.write (ok : HOk P w H h) (mu : Mut (H x)) (he : e = x ∨ H e = some (.own x)) (k : ∀ b u, b ≠ e → h.get? b = some u → h'.get? b = some u) (heo : ∃ u, h'.get? e = some u)
    (new : ObjOk P w (upd H x o') h' x o') : HOk P w (upd H x o') h' := fun b u q => by
  have nown : ∀ c y, H c = some (.own y) → c ≠ x := fun c y r z => by subst z; rw [r] at mu; exact mu
  have ntup : ∀ c xs, H c = some (.tup xs) → c ≠ x := fun c xs r z => by subst z; rw [r] at mu; exact mu
  by_cases hb : b = x
  · subst hb; rw [upd_same] at q; cases q; exact new
  · rw [upd_ne hb] at q
    by_cases hbe : b = e
    · have q' : H b = some (.own x) := by
        rcases he with z | z
        · exact absurd (hbe.trans z) hb
        · rw [hbe]; exact z
      rw [q] at q'; cases q'
      obtain ⟨v, hv⟩ := heo
      exact ⟨v, by rw [hbe]; exact hv⟩
    · refine (ok b u q).stay (fun c v hc r => k c v ?_ r) (fun c r => by rw [upd_ne (nown c b r)]; exact r) fun c xs r => by rw [upd_ne (ntup c xs r)]; exact r
      rcases hc with rfl | hc
      · exact hbe
      · rintro rfl
        rcases he with z | z
        · exact nown c b hc z
        · rw [hc] at z; cases z; exact hb rfl
end
structure Un (fs ex : List Addr) (H H' : Hp) (h h' : Heap) : Prop where
  keep : ∀ b o, h.get? b = some o → H b = none → b ∉ fs → b ∉ ex → h'.get? b = some o
  slot : ∀ b o, h.get? b = some o → H b = none → b ∈ fs → b ∉ ex → ∃ sl, h'.get? b = some { o with slots := sl }
  free : ∀ b o, h.get? b = some o → H b = none → b ∉ ex → H' b = none
  there : ∀ b o, h.get? b = some o → b ∉ ex → ∃ o', h'.get? b = some o'
  tups : ∀ b xs, H b = some (.tup xs) → H' b = some (.tup xs)
  frzs : ∀ b o u, H b = some (.frz o u) → H' b = some (.frz o u)
  tbls : ∀ b ps, H b = some (.tbl ps) → ∃ more, H' b = some (.tbl (ps ++ more))
section
variable {fs fs' ex ex' : List Addr} {H H1 H2 : Hp} {h h1 h2 h' : Heap} {a x e : Addr} {o : HO}
theorem Un.any (u : Un fs ex H H1 h h1) {b : Addr} {ob : Obj} (q : h.get? b = some ob) (n : H b = none) (hx : b ∉ ex) : ∃ sl, h1.get? b = some { ob with slots := sl } := by
  by_cases hb : b ∈ fs
  · exact u.slot b ob q n hb hx
  · exact ⟨ob.slots, u.keep b ob q n hb hx⟩
theorem Un.trans (a : Un fs ex H H1 h h1) (b : Un fs ex H1 H2 h1 h2) : Un fs ex H H2 h h2 where
  keep := fun c ob q n hc hx => b.keep c ob (a.keep c ob q n hc hx) (a.free c ob q n hx) hc hx
  slot := fun c ob q n hc hx => by
    obtain ⟨sl, e1⟩ := a.slot c ob q n hc hx
    obtain ⟨sl', e2⟩ := b.slot c _ e1 (a.free c ob q n hx) hc hx
    exact ⟨sl', e2⟩
  free := fun c ob q n hx => by
    obtain ⟨o', e1⟩ := a.there c ob q hx
    exact b.free c o' e1 (a.free c ob q n hx) hx
  there := fun c ob q hx => by
    obtain ⟨o', e1⟩ := a.there c ob q hx
    exact b.there c o' e1 hx
  tups := fun c xs q => b.tups c xs (a.tups c xs q)
  frzs := fun c ob xs q => b.frzs c ob xs (a.frzs c ob xs q)
  tbls := fun c ps q => by
    obtain ⟨m1, e1⟩ := a.tbls c ps q
    obtain ⟨m2, e2⟩ := b.tbls c _ e1
    exact ⟨m1 ++ m2, by rw [e2, Array.append_assoc]⟩
theorem Un.kept (k : ∀ b u, h.get? b = some u → h'.get? b = some u) : Un fs ex H H h h' :=
  ⟨fun b ob q _ _ _ => k b ob q, fun b ob q _ _ _ => ⟨ob.slots, k b ob q⟩, fun _ _ _ n _ => n, fun b ob q _ => ⟨ob, k b ob q⟩, fun _ _ q => q, fun _ _ _ q => q, fun _ ps q => ⟨#[], by rw [q]; simp⟩⟩
theorem Un.refl : Un fs ex H H h h := Un.kept fun _ _ q => q
theorem Un.laid (k : ∀ b u, h.get? b = some u → h'.get? b = some u) (hp : h.objs.size ≤ a) (hn : H a = none) : Un fs ex H (upd H a o) h h' where
  keep := fun b u q _ _ _ => k b u q
  slot := fun b u q _ _ _ => ⟨u.slots, k b u q⟩
  free := fun b u q n _ => by rw [upd_ne (Nat.ne_of_lt (Nat.lt_of_lt_of_le (Heap.lt_size q) hp))]; exact n
  there := fun b u q _ => ⟨u, k b u q⟩
  tups := fun b xs q => by rw [upd_ne (ne_of_none q hn)]; exact q
  frzs := fun b u xs q => by rw [upd_ne (ne_of_none q hn)]; exact q
  tbls := fun b ps q => ⟨#[], by rw [upd_ne (ne_of_none q hn), q]; simp⟩
theorem Un.write (mu : Mut (H x)) (he : e = x ∨ H e = some (.own x)) (k : ∀ b u, b ≠ e → h.get? b = some u → h'.get? b = some u) (heo : ∃ u, h'.get? e = some u) : Un fs ex H (upd H x o) h h' := by
  have hx : ∀ b, H b = none → b ≠ x := fun b n z => by subst z; rw [n] at mu; exact mu
  have hb : ∀ b, H b = none → b ≠ e := fun b n z => by
    subst z
    rcases he with r | r
    · exact hx b n r
    · rw [n] at r; cases r
  have hm : ∀ b u, H b = some u → ¬ Mut (some u) → b ≠ x := fun b u q nm z => by subst z; rw [q] at mu; exact nm mu
  refine ⟨fun b u q n _ _ => k b u (hb b n) q, fun b u q n _ _ => ⟨u.slots, k b u (hb b n) q⟩, fun b u q n _ => by rw [upd_ne (hx b n)]; exact n, fun b u q _ => ?_,
    fun b xs q => by rw [upd_ne (hm b _ q fun z => z)]; exact q, fun b u xs q => by rw [upd_ne (hm b _ q fun z => z)]; exact q, fun b ps q => ⟨#[], by rw [upd_ne (hm b _ q fun z => z), q]; simp⟩⟩
  by_cases hbe : b = e
  · subst hbe; exact heo
  · exact ⟨u, k b u hbe q⟩
theorem Un.mono (u : Un fs ex H H1 h h1) (hs : ∀ b ∈ fs, b ∈ fs') (hx : ∀ b ∈ ex, b ∈ ex') : Un fs' ex' H H1 h h1 :=
  ⟨fun b ob q n hb he => u.keep b ob q n (fun z => hb (hs b z)) fun z => he (hx b z), fun _ _ q n _ he => u.any q n fun z => he (hx _ z), fun b ob q n he => u.free b ob q n fun z => he (hx b z), fun b ob q he => u.there b ob q fun z => he (hx b z), u.tups, u.frzs, u.tbls⟩
end
def trk (h : Heap) (H : Hp) : List Addr := (List.range h.objs.size).filter fun a => (H a).isSome
def hidT (h : Heap) (H : Hp) : Heap := PySem.W.hideAll h (trk h H)
theorem hidT_size (h : Heap) (H : Hp) : (hidT h H).objs.size = h.objs.size := PySem.W.hideAll_size _ _
theorem hidT_get {h : Heap} {H : Hp} {b : Addr} {o : Obj} (e : h.get? b = some o) (n : H b = none) : (hidT h H).get? b = some o :=
  PySem.W.hideAll_get _ e fun hm => by
    have q : (H b).isSome = true := (List.mem_filter.mp hm).2
    rw [n] at q; simp at q
theorem of_hidT {h : Heap} {H : Hp} {b : Addr} {o : Obj} (e : (hidT h H).get? b = some o) : h.get? b = some o ∧ H b = none := by
  have e' : h.get? b = some o := PySem.W.of_hideAll (trk h H) e
  refine ⟨e', ?_⟩
  cases q : H b with
  | none => rfl
  | some x =>
    have hm : b ∈ trk h H := List.mem_filter.mpr ⟨List.mem_range.mpr (Heap.lt_size e'), by simp [q]⟩
    have z : (hidT h H).get? b = none := PySem.W.hideAll_none (trk h H) hm
    rw [z] at e; cases e
def allNews (g h : Heap) (L : Addr) : List (Addr × Obj) := (List.range h.objs.size).filterMap fun a => if a = L ∨ (g.get? a).isSome = true then none else (h.get? a).map fun o => (a, o)
def rest (g h : Heap) (L d : Addr) : List (Addr × Obj) := (allNews g h L).filter fun p => decide (p.1 ≠ d)
end L2
namespace L2
open PySem PySem.Spec PyProof.Rows
structure Mod (K : PySem.W.Frag) (mg : Str → Option Value) (base : Heap) : Prop where
  kin : K.In base
  glob : base.Ns mainGlobals mg
  blt : ∃ mb, base.Ns builtinsNs mb ∧ ∀ x : Str, x ≠ "__name__" → mb x = bootBuiltins x
  nolimit : base.NoLimit
/-- the context: a def's body (or a comprehension's block) running. base: fixed through the whole law; s₀, H₀: the entry; outer: the frames whose slots others may change (a def's callers); stack: all frames that run;
   ex: iterators that were made ahead of the entry and are walked here (a comprehension's); fn: the names whose cells were made at the entry (a def: all; a comprehension's block: its own); calm: not within an except suite; pn: pins that every state bears; xe: what is wanted of an exception that leaves the code -/
structure Cx where
  prog : Program
  w : World
  K : PySem.W.Frag
  mg : Str → Option Value
  base : Heap
  A : Around
  N : List Str
  s₀ : Shared
  H₀ : Hp
  env : Env
  outer : List Env
  stack : List Env
  ex : List Addr
  fn : Str → Bool
  calm : Bool
  pn : List (Addr × Obj)
  xe : Value → Shared → Prop
def frs (l : List Env) : List Addr := l.filterMap (·.frame)
abbrev Cx.fs (X : Cx) : List Addr := frs X.outer
def Vis (sc : Scope) (x : Str) : Prop := sc.names.lookup x = some .local ∨ sc.names.lookup x = some .cell ∨ sc.names.lookup x = some .free
def Loc (sc : Scope) (x : Str) : Prop := sc.names.lookup x = some .local ∨ sc.names.lookup x = some .cell
def Look (env : Env) (h : Heap) (m : Str → Option Value) (x : Str) (u : Value) : Prop :=
  (env.kindOf x = some .local ∧ m x = some u) ∨ ((env.kindOf x = some .cell ∨ env.kindOf x = some .free) ∧ ∃ c, env.cells.lookup x = some c ∧ h.IsCell c (some u))
structure Cx.Ok (X : Cx) : Prop where
  mod : Mod X.K X.mg X.base
  kind : X.env.scope.kind = .function
  glob : X.env.globals = mainGlobals
  blt : X.env.builtins = builtinsNs
  above : X.s₀.heap.objs.size ≤ X.env.locals
  inj : ∀ x y c, X.env.cells.lookup x = some c → X.env.cells.lookup y = some c → x = y
  has : ∀ x, (X.env.kindOf x = some .cell ∨ X.env.kindOf x = some .free) → ∃ c, X.env.cells.lookup x = some c
  cab : ∀ x c, X.fn x = true → X.env.cells.lookup x = some c → X.s₀.heap.objs.size ≤ c
  hd : X.calm = true → X.A.handled = none
  frames : X.A.frames = some X.stack
  stk : X.stack = X.outer ∨ (X.stack = X.env :: X.outer ∧ X.env.frame = some X.env.locals)
  exf : ∀ b ∈ X.ex, b ≠ X.env.locals ∧ ∀ x c, X.env.cells.lookup x = some c → c ≠ b
  bs : ∀ b o, X.base.get? b = some o → X.s₀.heap.get? b = some o ∧ X.H₀ b = none
  bsz : X.base.objs.size ≤ X.s₀.heap.objs.size
  noex : ∀ b o, X.base.get? b = some o → b ∉ X.ex
  exfs : ∀ b ∈ X.ex, b ∉ X.fs
  funs : X.s₀.heap.FunFrames X.base X.outer
  frf : ∀ b ∈ X.fs, X.H₀ b = none
structure Inv (X : Cx) (pins : List (Addr × Obj)) (σ : List (Option V)) (H : Hp) (s : Shared) : Prop where
  ok : X.Ok
  os : s.os = X.s₀.os
  bare : AllBare s.gens
  base : Un X.fs X.ex X.H₀ H X.s₀.heap s.heap
  loc : ∃ m, s.heap.Ns X.env.locals m ∧ ∀ (i : Nat) (x : Str) (v : V), X.N[i]? = some x → σ[i]? = some (some v) → Vis X.env.scope x → ∃ u, RelV v u ∧ Look X.env s.heap m x u
  cell : ∀ x c, X.env.cells.lookup x = some c → ∃ v, s.heap.IsCell c v
  free : H X.env.locals = none
  freeC : ∀ x c, X.env.cells.lookup x = some c → H c = none
  pin : ∀ p ∈ X.pn ++ pins, s.heap.get? p.1 = some p.2 ∧ H p.1 = none ∧ p.1 ≠ X.env.locals ∧ p.1 ∉ X.fs ∧ ∀ v, p.2.data ≠ .cell v
  hok : HOk X.prog X.w H s.heap
  len : σ.length = X.N.length
section
variable {X : Cx} {pins : List (Addr × Obj)} {σ : List (Option V)} {H H' : Hp} {s : Shared} {h' : Heap}
theorem Cx.Ok.nofr (ok : X.Ok) {b : Addr} {o : Obj} (e : X.base.get? b = some o) : b ∉ X.fs := fun hb => by
  have := (ok.funs.mem hb).1
  rw [e] at this; cases this
theorem Inv.bs (I : Inv X pins σ H s) : ∀ b o, X.base.get? b = some o → s.heap.get? b = some o ∧ H b = none := fun b o e =>
  ⟨I.base.keep b o (I.ok.bs b o e).1 (I.ok.bs b o e).2 (I.ok.nofr e) (I.ok.noex b o e), I.base.free b o (I.ok.bs b o e).1 (I.ok.bs b o e).2 (I.ok.noex b o e)⟩
theorem Inv.bk (I : Inv X pins σ H s) : ∀ b o, X.base.get? b = some o → s.heap.get? b = some o := fun b o e => (I.bs b o e).1
theorem Inv.mod (I : Inv X pins σ H s) : Mod X.K X.mg X.base := I.ok.mod
theorem Inv.kIn (I : Inv X pins σ H s) : X.K.In s.heap := I.ok.mod.kin.keeps I.bk
theorem Inv.nolimit (I : Inv X pins σ H s) : s.heap.NoLimit := I.ok.mod.nolimit.keeps I.bk
theorem Inv.fr (I : Inv X pins σ H s) : ∃ m, Fr X.base X.env.locals s.heap m :=
  let ⟨m, hn, _⟩ := I.loc
  ⟨m, hn, I.bk, Nat.le_trans I.ok.bsz I.ok.above⟩
theorem Inv.lt (I : Inv X pins σ H s) : X.env.locals < s.heap.objs.size := let ⟨_, hn, _⟩ := I.loc; hn.lt
theorem Inv.sz (I : Inv X pins σ H s) : X.s₀.heap.objs.size ≤ s.heap.objs.size := Nat.le_trans I.ok.above (Nat.le_of_lt I.lt)
theorem Inv.nofs (I : Inv X pins σ H s) {a : Addr} (h : s.heap.objs.size ≤ a) : a ∉ X.fs := fun hb => by
  obtain ⟨_, o, ho, _⟩ := I.ok.funs.mem hb
  exact absurd (Nat.lt_of_lt_of_le (Heap.lt_size ho) (Nat.le_trans I.sz h)) (Nat.lt_irrefl _)
theorem Inv.cne (I : Inv X pins σ H s) : ∀ x c, X.env.cells.lookup x = some c → c ≠ X.env.locals := fun x c e z => by
  obtain ⟨v, o, ho, hd⟩ := I.cell x c e
  obtain ⟨m, ⟨o', es, ep, ho', hd', _⟩, _⟩ := I.loc
  rw [z, ho'] at ho; cases ho; rw [hd'] at hd; cases hd
theorem Inv.funs (I : Inv X pins σ H s) : s.heap.FunFrames X.base X.outer := by
  have all : ∀ (l : List Env), (∀ b ∈ frs l, b ∈ X.fs) → X.s₀.heap.FunFrames X.base l → s.heap.FunFrames X.base l := by
    intro l
    induction l with
    | nil => intro _ _; trivial
    | cons env r ih =>
      intro hs hl
      obtain ⟨hk, ⟨L, o, hf, hn, ho, hd⟩, hr⟩ := hl
      have hL : L ∈ X.fs := hs L (by unfold frs; rw [List.filterMap_cons, hf]; exact List.mem_cons_self)
      obtain ⟨sl, e⟩ := I.base.slot L o ho (I.ok.frf L hL) hL fun z => I.ok.exfs L z hL
      exact ⟨hk, ⟨L, _, hf, hn, e, hd⟩, ih (fun b hb => hs b (by unfold frs; rw [List.filterMap_cons, hf]; exact List.mem_cons_of_mem _ hb)) hr⟩
  exact all X.outer (fun _ hb => hb) I.ok.funs
theorem Inv.stack (I : Inv X pins σ H s) : s.heap.FunFrames X.base X.stack := by
  rcases I.ok.stk with e | ⟨e, hf⟩
  · rw [e]; exact I.funs
  · rw [e]
    obtain ⟨m, hn, _⟩ := I.loc
    refine .cons (by rw [I.ok.kind]; decide) hf hn ?_ I.funs
    exact Heap.get?_none_of_le (Nat.le_trans I.ok.bsz I.ok.above)
theorem Inv.stkSub (I : Inv X pins σ H s) : ∀ b ∈ frs X.stack, b ∈ X.env.locals :: X.fs := fun b hb => by
  rcases I.ok.stk with e | ⟨e, hf⟩
  · rw [e] at hb; exact List.mem_cons_of_mem _ hb
  · rw [e] at hb
    unfold frs at hb
    rw [List.filterMap_cons, hf] at hb
    exact hb
theorem Inv.stkFree (I : Inv X pins σ H s) : ∀ b ∈ frs X.stack, H b = none := fun b hb => by
  rcases List.mem_cons.mp (I.stkSub b hb) with e | hb
  · rw [e]; exact I.free
  · obtain ⟨_, o, ho, _⟩ := I.ok.funs.mem hb
    exact I.base.free b o ho (I.ok.frf b hb) fun z => I.ok.exfs b z hb
theorem Inv.step {g' : Array GenState} {t' : Nat} {d' : Drawn} {ch : List Addr} (I : Inv X pins σ H s)
    (hch : ∀ b ∈ ch, (b ∈ X.ex ∨ X.s₀.heap.objs.size ≤ b) ∧ b ≠ X.env.locals ∧ (∀ x c, X.env.cells.lookup x = some c → c ≠ b) ∧ ∀ p ∈ X.pn ++ pins, p.1 ≠ b)
    (keep : ∀ b o, b ≠ X.env.locals → b ∉ X.fs → b ∉ ch → s.heap.get? b = some o → H b = none → h'.get? b = some o)
    (slot : ∀ b o, b ≠ X.env.locals → b ∈ X.fs → b ∉ ch → s.heap.get? b = some o → H b = none → ∃ sl, h'.get? b = some { o with slots := sl }) (free : ∀ b o, b ∉ ch → s.heap.get? b = some o → H b = none → H' b = none)
    (there : ∀ b o, b ∉ ch → s.heap.get? b = some o → ∃ o', h'.get? b = some o')
    (tups : ∀ b xs, H b = some (.tup xs) → H' b = some (.tup xs)) (frzs : ∀ b o u, H b = some (.frz o u) → H' b = some (.frz o u)) (tbls : ∀ b ps, H b = some (.tbl ps) → ∃ more, H' b = some (.tbl (ps ++ more)))
    (ns : ∀ m, s.heap.Ns X.env.locals m → h'.Ns X.env.locals m) (hok : HOk X.prog X.w H' h') (hg : AllBare g') :
    Inv X pins σ H' { s with heap := h', gens := g', drawn := d', toks := t' } := by
  have neL : ∀ b o, X.s₀.heap.get? b = some o → b ≠ X.env.locals := fun b o e => Nat.ne_of_lt (Nat.lt_of_lt_of_le (Heap.lt_size e) I.ok.above)
  have neC : ∀ b o, X.s₀.heap.get? b = some o → b ∉ X.ex → b ∉ ch := fun b o e hx hb => by
    rcases (hch b hb).1 with z | z
    · exact hx z
    · exact absurd (Nat.lt_of_lt_of_le (Heap.lt_size e) z) (Nat.lt_irrefl _)
  have cellK : ∀ x c, X.env.cells.lookup x = some c → ∀ v, s.heap.IsCell c v → h'.IsCell c v := fun x c e v ⟨o, ho, hd⟩ => by
    have nch : c ∉ ch := fun z => (hch c z).2.2.1 x c e rfl
    by_cases hc : c ∈ X.fs
    · obtain ⟨sl, q⟩ := slot c o (I.cne x c e) hc nch ho (I.freeC x c e)
      exact ⟨_, q, hd⟩
    · exact ⟨o, keep c o (I.cne x c e) hc nch ho (I.freeC x c e), hd⟩
  refine ⟨I.ok, I.os, hg, ⟨fun b o e n hb hx => ?_, fun b o e n hb hx => ?_, fun b o e n hx => ?_, fun b o e hx => ?_, fun b xs e => tups b xs (I.base.tups b xs e), fun b o xs e => frzs b o xs (I.base.frzs b o xs e), fun b ps e => ?_⟩, ?_, fun x c e => ?_, ?_, fun x c e => ?_, fun p hp => ?_, hok, I.len⟩
  · exact keep b o (neL b o e) hb (neC b o e hx) (I.base.keep b o e n hb hx) (I.base.free b o e n hx)
  · obtain ⟨sl, e1⟩ := I.base.slot b o e n hb hx
    obtain ⟨sl', e2⟩ := slot b _ (neL b o e) hb (neC b o e hx) e1 (I.base.free b o e n hx)
    exact ⟨sl', e2⟩
  · obtain ⟨o', e1⟩ := I.base.there b o e hx
    exact free b o' (neC b o e hx) e1 (I.base.free b o e n hx)
  · obtain ⟨o', e1⟩ := I.base.there b o e hx
    exact there b o' (neC b o e hx) e1
  · obtain ⟨m1, e1⟩ := I.base.tbls b ps e
    obtain ⟨m2, e2⟩ := tbls b _ e1
    exact ⟨m1 ++ m2, by rw [e2, Array.append_assoc]⟩
  · obtain ⟨m, hn, hl⟩ := I.loc
    refine ⟨m, ns m hn, fun i x v e1 e2 e3 => ?_⟩
    obtain ⟨u, r, l⟩ := hl i x v e1 e2 e3
    refine ⟨u, r, ?_⟩
    rcases l with l | ⟨k, c, e, z⟩
    · exact .inl l
    · exact .inr ⟨k, c, e, cellK x c e _ z⟩
  · obtain ⟨v, z⟩ := I.cell x c e
    exact ⟨v, cellK x c e v z⟩
  · obtain ⟨m, ⟨o, _, _, ho, _⟩, _⟩ := I.loc
    exact free _ o (fun z => (hch _ z).2.1 rfl) ho I.free
  · obtain ⟨v, o, ho, hd⟩ := I.cell x c e
    exact free c o (fun z => (hch c z).2.2.1 x c e rfl) ho (I.freeC x c e)
  · obtain ⟨e, n, ne, nf, d⟩ := I.pin p hp
    have nch : p.1 ∉ ch := fun z => (hch p.1 z).2.2.2 p hp rfl
    exact ⟨keep p.1 p.2 ne nf nch e n, free p.1 p.2 nch e n, ne, nf, d⟩
theorem Inv.un {t' : Nat} (I : Inv X pins σ H s) (u : Un X.fs [] H H' s.heap h') (hok : HOk X.prog X.w H' h') : Inv X pins σ H' { s with heap := h', toks := t' } := by
  obtain ⟨m, ⟨o, es, ep, ho, r⟩, _⟩ := id I.loc
  obtain ⟨sl, hL⟩ := u.any ho I.free (by simp)
  exact I.step (g' := s.gens) (d' := s.drawn) (ch := []) (fun _ z => nomatch z) (fun b o _ hb _ e n => u.keep b o e n hb (by simp)) (fun b o _ hb _ e n => u.slot b o e n hb (by simp)) (fun b o _ e n => u.free b o e n (by simp)) (fun b o _ e => u.there b o e (by simp)) u.tups u.frzs u.tbls (fun m' hm => by
    obtain ⟨o', es', ep', ho', r'⟩ := hm
    rw [ho] at ho'; cases ho'
    exact ⟨_, es', ep', hL, r'⟩) hok I.bare
theorem Inv.call {g' : Array GenState} {t' : Nat} {d' : Drawn} {ch : List Addr} (I : Inv X pins σ H s) (u : Un (frs X.stack) ch H H' s.heap h') (hok : HOk X.prog X.w H' h') (hg : AllBare g')
    (hch : ∀ b ∈ ch, (b ∈ X.ex ∨ X.s₀.heap.objs.size ≤ b) ∧ b ≠ X.env.locals ∧ (∀ x c, X.env.cells.lookup x = some c → c ≠ b) ∧ ∀ p ∈ X.pn ++ pins, p.1 ≠ b) :
    Inv X pins σ H' { s with heap := h', gens := g', drawn := d', toks := t' } := by
  obtain ⟨m, ⟨o, es, ep, ho, r⟩, _⟩ := id I.loc
  obtain ⟨sl, hL⟩ := u.any ho I.free fun z => (hch _ z).2.1 rfl
  exact I.step (ch := ch) hch (fun b o hL hb hc e n => u.keep b o e n (fun z => (List.mem_cons.mp (I.stkSub b z)).elim hL hb) hc) (fun b o _ _ hc e n => u.any e n hc) (fun b o hc e n => u.free b o e n hc) (fun b o hc e => u.there b o e hc) u.tups u.frzs u.tbls (fun m' hm => by
    obtain ⟨o', es', ep', ho', r'⟩ := hm
    rw [ho] at ho'; cases ho'
    exact ⟨_, es', ep', hL, r'⟩) hok hg
theorem Inv.turned {t' : Nat} {it : Addr} (I : Inv X pins σ H s) (k : ∀ b o, b ≠ it → s.heap.get? b = some o → h'.get? b = some o) (hn : H it = none) (hL : it ≠ X.env.locals)
    (h1 : it ∈ X.ex ∨ X.s₀.heap.objs.size ≤ it) (h2 : ∀ x c, X.env.cells.lookup x = some c → c ≠ it) (h3 : ∀ p ∈ X.pn ++ pins, p.1 ≠ it) : Inv X pins σ H { s with heap := h', toks := t' } := by
  have nit : ∀ b u, H b = some u → b ≠ it := fun b u e z => by rw [z, hn] at e; cases e
  refine I.step (g' := s.gens) (d' := s.drawn) (ch := [it]) (fun b hb => ?_) (fun b o _ _ hc e _ => k b o (fun z => hc (by simp [z])) e) (fun b o _ _ hc e _ => ⟨o.slots, k b o (fun z => hc (by simp [z])) e⟩) (fun _ _ _ _ n => n)
    (fun b o hc e => ⟨o, k b o (fun z => hc (by simp [z])) e⟩) (fun _ _ e => e) (fun _ _ _ e => e) (fun b ps e => ⟨#[], by rw [e]; simp⟩) (fun m hm => ?_) (fun b u e => ?_) I.bare
  · have e : b = it := by simpa using hb
    subst e
    exact ⟨h1, hL, h2, h3⟩
  · obtain ⟨o, es, ep, ho, r⟩ := hm
    exact ⟨o, es, ep, k _ o (Ne.symm hL) ho, r⟩
  · refine (I.hok b u e).stay (fun c v hc q => k c v ?_ q) (fun _ q => q) fun _ _ q => q
    rcases hc with z | z
    · rw [z]; exact nit b u e
    · exact nit c _ z
theorem Inv.tok (I : Inv X pins σ H s) (t : Nat) : Inv X pins σ H { s with toks := t } := I.un (h' := s.heap) (t' := t) Un.refl I.hok
theorem Inv.kept {t' : Nat} (I : Inv X pins σ H s) (k : ∀ b u, s.heap.get? b = some u → h'.get? b = some u) : Inv X pins σ H { s with heap := h', toks := t' } := I.un (Un.kept k) (I.hok.kept k)
theorem Inv.laid {a : Addr} {o : HO} {t' : Nat} (I : Inv X pins σ H s) (k : ∀ b u, s.heap.get? b = some u → h'.get? b = some u) (hp : s.heap.objs.size ≤ a) (new : ObjOk X.prog X.w (upd H a o) h' a o) :
    Inv X pins σ (upd H a o) { s with heap := h', toks := t' } := I.un (Un.laid k hp (I.hok.fresh hp)) (I.hok.laid k hp new)
theorem Inv.write {x e : Addr} {o : HO} {t' : Nat} (I : Inv X pins σ H s) (mu : Mut (H x)) (he : e = x ∨ H e = some (.own x)) (k : ∀ b u, b ≠ e → s.heap.get? b = some u → h'.get? b = some u) (heo : ∃ u, h'.get? e = some u)
    (new : ObjOk X.prog X.w (upd H x o) h' x o) : Inv X pins σ (upd H x o) { s with heap := h', toks := t' } := I.un (Un.write mu he k heo) (I.hok.write mu he k heo new)
theorem Inv.pins_of {pins' : List (Addr × Obj)} (I : Inv X pins σ H s) (h : ∀ p ∈ pins', s.heap.get? p.1 = some p.2 ∧ H p.1 = none ∧ p.1 ≠ X.env.locals ∧ p.1 ∉ X.fs ∧ ∀ v, p.2.data ≠ .cell v) : Inv X pins' σ H s :=
  ⟨I.ok, I.os, I.bare, I.base, I.loc, I.cell, I.free, I.freeC, fun p hp => (List.mem_append.mp hp).elim (fun z => I.pin p (List.mem_append_left _ z)) (h p), I.hok, I.len⟩
theorem nodup_ix {N : List Str} (hN : N.Nodup) {i j : Nat} {x : Str} (a : N[i]? = some x) (b : N[j]? = some x) : i = j := by
  obtain ⟨h1, e1⟩ := List.getElem?_eq_some_iff.mp a
  obtain ⟨h2, e2⟩ := List.getElem?_eq_some_iff.mp b
  exact (List.getElem_inj hN).mp (e1.trans e2.symm)
theorem store_ok2 {M : Model} {A : Around} {E : Value → Shared → Prop} {i : Nat} {x : Str} {v : V} {u : Value} {Q : Unit → Shared → Prop} (I : Inv X pins σ H s) (hN : X.N.Nodup) (hi : X.N[i]? = some x) (hx : Loc X.env.scope x) (r : RelV v u)
    (h : ∀ s', Inv X pins (σ.set i (some v)) H s' → (∃ a, Heap.SameBut a s.heap s'.heap ∧ (a = X.env.locals ∨ X.env.cells.lookup x = some a)) → Q () s') (hf : X.fn x = true ∨ X.env.scope.names.lookup x = some .local := by first | exact .inl rfl | exact .inr rfl | assumption) : wpAny M A (storeName X.env x u) Q E s := by
  obtain ⟨m, hn, hl⟩ := id I.loc
  have hcls : (X.env.scope.kind == .class || (X.env.scope.kind == .module && X.env.locals != X.env.globals)) = false := by rw [I.ok.kind]; rfl
  have hiσ : i < σ.length := by rw [I.len]; exact (List.getElem?_eq_some_iff.mp hi).1
  have cne := I.cne
  have tracked : ∀ {a : Addr} {h' : Heap}, (∃ o, s.heap.get? a = some o ∧ H a = none) → Heap.SameBut a s.heap h' → HOk X.prog X.w H h' := fun {a h'} ha hs b ob e => by
    obtain ⟨_, _, hfree⟩ := ha
    refine (I.hok b ob e).stay (fun c w' hc q => (hs.2 c ?_).trans q) (fun _ q => q) fun _ _ q => q
    rintro rfl
    rcases hc with rfl | hc
    · rw [hfree] at e; cases e
    · rw [hfree] at hc; cases hc
  rcases hx with hk | hk
  · refine wpAny_storeName_local hk hn (fun h' hn' hs => ?_) hcls
    obtain ⟨oL, _, _, hoL, _⟩ := id hn
    refine h _ ⟨I.ok, I.os, I.bare, ⟨fun b o e n hb hx => ?_, fun b o e n hb hx => ?_, I.base.free, fun b o e hx => ?_, I.base.tups, I.base.frzs, I.base.tbls⟩, ⟨_, hn', fun j y v' e1 e2 e3 => ?_⟩, fun y c e => ?_, I.free, I.freeC, fun p hp => ?_, tracked ⟨oL, hoL, I.free⟩ hs, by simpa using I.len⟩ ⟨_, hs, .inl rfl⟩
    · exact (hs.2 b (Nat.ne_of_lt (Nat.lt_of_lt_of_le (Heap.lt_size e) I.ok.above))).trans (I.base.keep b o e n hb hx)
    · obtain ⟨sl, e1⟩ := I.base.slot b o e n hb hx
      exact ⟨sl, (hs.2 b (Nat.ne_of_lt (Nat.lt_of_lt_of_le (Heap.lt_size e) I.ok.above))).trans e1⟩
    · obtain ⟨o', e1⟩ := I.base.there b o e hx
      exact ⟨o', (hs.2 b (Nat.ne_of_lt (Nat.lt_of_lt_of_le (Heap.lt_size e) I.ok.above))).trans e1⟩
    · by_cases hj : j = i
      · subst hj
        rw [hi] at e1; cases e1
        rw [List.getElem?_set_self hiσ] at e2
        cases e2
        exact ⟨u, r, .inl ⟨hk, by simp⟩⟩
      · rw [List.getElem?_set_ne (Ne.symm hj)] at e2
        obtain ⟨u', r', q⟩ := hl j y v' e1 e2 e3
        refine ⟨u', r', ?_⟩
        rcases q with ⟨k, e⟩ | ⟨k, c, e, z⟩
        · refine .inl ⟨k, ?_⟩
          have : y ≠ x := fun e => hj (nodup_ix hN e1 (e ▸ hi))
          simp [this, e]
        · exact .inr ⟨k, c, e, z.sameBut hs (cne y c e)⟩
    · obtain ⟨w', z⟩ := I.cell y c e
      exact ⟨w', z.sameBut hs (cne y c e)⟩
    · obtain ⟨e, n, ne, nf, d⟩ := I.pin p hp
      exact ⟨(hs.2 p.1 ne).trans e, n, ne, nf, d⟩
  · have hfn : X.fn x = true := by
      rcases hf with z | z
      · exact z
      · rw [z] at hk; cases hk
    obtain ⟨c, hc⟩ := I.ok.has x (.inl hk)
    obtain ⟨w', z⟩ := I.cell x c hc
    refine wpAny_storeName_cell I.ok.kind hk hc z (fun h' hc' hs => ?_)
    obtain ⟨oc, hoc, hocd⟩ := id z
    refine h { s with heap := h' } ⟨I.ok, I.os, I.bare, ⟨fun b o e n hb hx => ?_, fun b o e n hb hx => ?_, I.base.free, fun b o e hx => ?_, I.base.tups, I.base.frzs, I.base.tbls⟩, ⟨m, hn.sameBut hs (Ne.symm (cne x c hc)), fun j y v' e1 e2 e3 => ?_⟩, fun y c' e => ?_, I.free, I.freeC, fun p hp => ?_, tracked ⟨oc, hoc, I.freeC x c hc⟩ hs, by simpa using I.len⟩ ⟨c, hs, .inr hc⟩
    · exact (hs.2 b (Nat.ne_of_lt (Nat.lt_of_lt_of_le (Heap.lt_size e) (I.ok.cab x c hfn hc)))).trans (I.base.keep b o e n hb hx)
    · obtain ⟨sl, e1⟩ := I.base.slot b o e n hb hx
      exact ⟨sl, (hs.2 b (Nat.ne_of_lt (Nat.lt_of_lt_of_le (Heap.lt_size e) (I.ok.cab x c hfn hc)))).trans e1⟩
    · obtain ⟨o', e1⟩ := I.base.there b o e hx
      exact ⟨o', (hs.2 b (Nat.ne_of_lt (Nat.lt_of_lt_of_le (Heap.lt_size e) (I.ok.cab x c hfn hc)))).trans e1⟩
    · by_cases hj : j = i
      · subst hj
        rw [hi] at e1; cases e1
        rw [List.getElem?_set_self hiσ] at e2
        cases e2
        exact ⟨u, r, .inr ⟨.inl hk, c, hc, hc'⟩⟩
      · rw [List.getElem?_set_ne (Ne.symm hj)] at e2
        obtain ⟨u', r', q⟩ := hl j y v' e1 e2 e3
        refine ⟨u', r', ?_⟩
        rcases q with q | ⟨k, c', e, z'⟩
        · exact .inl q
        · refine .inr ⟨k, c', e, z'.sameBut hs ?_⟩
          rintro rfl
          exact hj (nodup_ix hN e1 (I.ok.inj _ _ _ e hc ▸ hi))
    · by_cases hcc : c' = c
      · subst hcc; exact ⟨_, hc'⟩
      · obtain ⟨w2, z2⟩ := I.cell y c' e
        exact ⟨w2, z2.sameBut hs hcc⟩
    · obtain ⟨e, n, ne, nf, d⟩ := I.pin p hp
      refine ⟨(hs.2 p.1 ?_).trans e, n, ne, nf, d⟩
      intro q
      rw [q, hoc] at e
      have q' : oc = p.2 := Option.some.inj e
      exact d w' (by rw [← q']; exact hocd)
theorem store_ok {M : Model} {A : Around} {E : Value → Shared → Prop} {i : Nat} {x : Str} {v : V} {u : Value} {Q : Unit → Shared → Prop} (I : Inv X pins σ H s) (hN : X.N.Nodup) (hi : X.N[i]? = some x) (hx : Loc X.env.scope x) (r : RelV v u)
    (h : ∀ s', Inv X pins (σ.set i (some v)) H s' → Q () s') (hf : X.fn x = true ∨ X.env.scope.names.lookup x = some .local := by first | exact .inl rfl | exact .inr rfl | assumption) : wpAny M A (storeName X.env x u) Q E s :=
  store_ok2 I hN hi hx r (fun s' I' _ => h s' I') hf
theorem Inv.call' {s' : Shared} {ch : List Addr} (I : Inv X pins σ H s) (ho : s'.os = s.os) (u : Un (frs X.stack) ch H H' s.heap s'.heap) (hok : HOk X.prog X.w H' s'.heap) (hg : AllBare s'.gens)
    (hch : ∀ b ∈ ch, (b ∈ X.ex ∨ X.s₀.heap.objs.size ≤ b) ∧ b ≠ X.env.locals ∧ (∀ x c, X.env.cells.lookup x = some c → c ≠ b) ∧ ∀ p ∈ X.pn ++ pins, p.1 ≠ b) : Inv X pins σ H' s' := by
  obtain ⟨h', g', d', t', o'⟩ := s'
  have e : o' = s.os := ho
  subst e
  exact I.call (g' := g') (t' := t') (d' := d') u hok hg hch
end
abbrev XK := Value → Option Addr → Hp → Prop
abbrev St := List (Option V)
abbrev VK := V → Hp → Prop
abbrev TE := St → Hp → VK → Prop
abbrev TT := St → Hp → (Bool → Hp → Prop) → Prop
abbrev TA := St → Hp → (List V → Hp → Prop) → Prop
structure Ends where
  nx : St → Hp → Prop
  rt : VK
  bk : St → Hp → Prop := fun _ _ => False
  ct : St → Hp → Prop := fun _ _ => False
abbrev TS := Ends → St → Hp → Prop
def EP (X : Cx) (pins : List (Addr × Obj)) (σ : St) (Q : VK) (u : Value) (s' : Shared) : Prop := ∃ v H', Inv X pins σ H' s' ∧ RelV v u ∧ Q v H'
def TP (X : Cx) (pins : List (Addr × Obj)) (σ : St) (Q : Bool → Hp → Prop) (b : Bool) (s' : Shared) : Prop := ∃ H', Inv X pins σ H' s' ∧ Q b H'
def AP (X : Cx) (pins : List (Addr × Obj)) (σ : St) (Q : List V → Hp → Prop) (us : List Value) (s' : Shared) : Prop := ∃ vs H', Inv X pins σ H' s' ∧ Vals vs us ∧ Q vs H'
def SP (X : Cx) (pins : List (Addr × Obj)) (D : Ends) (f : Flow) (s' : Shared) : Prop :=
  match f with
  | .next => ∃ σ' H', Inv X pins σ' H' s' ∧ D.nx σ' H'
  | .brk => ∃ σ' H', Inv X pins σ' H' s' ∧ D.bk σ' H'
  | .cont => ∃ σ' H', Inv X pins σ' H' s' ∧ D.ct σ' H'
  | .ret u => ∃ v σ' H', Inv X pins σ' H' s' ∧ RelV v u ∧ D.rt v H'
def PE (X : Cx) (e : Expr) (t : TE) : Prop :=
  ∀ (pins : List (Addr × Obj)) (s : Shared) (σ : St) (H : Hp) (Q : VK), Inv X pins σ H s → t σ H Q → wpAny (model X.prog X.w) X.A (eval e X.env) (EP X pins σ Q) X.xe s
def PT (X : Cx) (e : Expr) (t : TT) : Prop :=
  ∀ (pins : List (Addr × Obj)) (s : Shared) (σ : St) (H : Hp) (Q : Bool → Hp → Prop), Inv X pins σ H s → t σ H Q → wpAny (model X.prog X.w) X.A (isTrue e X.env (eval e X.env)) (TP X pins σ Q) X.xe s
def PW (X : Cx) (e : Expr) (t : TT) : Prop :=
  ∀ (whole : Sem Value) (pins : List (Addr × Obj)) (s : Shared) (σ : St) (H : Hp) (Q : Bool → Hp → Prop), Inv X pins σ H s → t σ H Q → wpAny (model X.prog X.w) X.A (isTrue e X.env whole) (TP X pins σ Q) X.xe s
theorem PW.pt {X : Cx} {e : Expr} {t : TT} (h : PW X e t) : PT X e t := h _
def PA (X : Cx) (es : List Expr) (t : TA) : Prop :=
  ∀ (pos : Pos) (pins : List (Addr × Obj)) (s : Shared) (σ : St) (H : Hp) (Q : List V → Hp → Prop), Inv X pins σ H s → t σ H Q → wpAny (model X.prog X.w) X.A (spliced (backTo pos (starEach es X.env))) (AP X pins σ Q) X.xe s
def PS (X : Cx) (st : Stmt) (t : TS) : Prop :=
  ∀ (pins : List (Addr × Obj)) (s : Shared) (σ : St) (H : Hp) (D : Ends), Inv X pins σ H s → t D σ H → wpAny (model X.prog X.w) X.A (exec st X.env) (SP X pins D) X.xe s
def PSs (X : Cx) (st : List Stmt) (t : TS) : Prop :=
  ∀ (pins : List (Addr × Obj)) (s : Shared) (σ : St) (H : Hp) (D : Ends), Inv X pins σ H s → t D σ H → wpAny (model X.prog X.w) X.A (execs st X.env) (SP X pins D) X.xe s
theorem thn {α : Type} {t : Sem α} {Q Q' : α → Shared → Prop} {M : Model} {A : Around} {E : Value → Shared → Prop} {s : Shared} (h : wpAny M A t Q E s) (hQ : ∀ a s, Q a s → Q' a s) : wpAny M A t Q' E s := wpAny_mono h hQ fun _ _ x => x
end L2
namespace L2
open PySem PySem.Spec PyProof.Rows
section
variable {X : Cx}
def tVar (i : Nat) : TE := fun σ H Q => ∃ v, σ[i]? = some (some v) ∧ Q v H
def tC (v : V) : TE := fun _ H Q => Q v H
theorem pe_var {i : Nat} {x : Str} {pos : Pos} (hN : X.N[i]? = some x) (hv : Vis X.env.scope x) (hd : (x == ("__debug__" : Str)) = false := by decide) (hcd : (x == ("__classdict__" : Str)) = false := by decide) : PE X (.Name x pos) (tVar i) := by
  intro pins s σ H Q I h
  obtain ⟨v, e, h⟩ := h
  obtain ⟨m, hn, hl⟩ := I.loc
  obtain ⟨u, r, l⟩ := hl i x v hN e hv
  have fin : EP X pins σ Q u s := ⟨v, H, I, r, h⟩
  rcases l with ⟨hk, hm⟩ | ⟨hk, c, hc, hcell⟩
  · exact wpAny_Name (wpAny_loadName_local I.ok.kind hk hn hm fin) hd
  · rcases hk with hk | hk
    · exact wpAny_Name (wpAny_loadName_cell I.ok.kind hk hc hcell fin) hd
    · exact wpAny_Name (wpAny_loadName_free I.ok.kind hk hc hcell fin hcd) hd
theorem pe_int {i j pos} : PE X (.Constant (.int i) j pos) (tC (.int i)) := fun _ _ _ H _ I h => wpAny_Constant_int ⟨.int i, H, I.tok _, ⟨_, rfl⟩, h⟩
theorem pe_bl {b j pos} : PE X (.Constant (.bool b) j pos) (tC (.bl b)) := fun _ _ _ H _ I h => Constant_bool ⟨.bl b, H, I, rfl, h⟩
theorem pe_non {j pos} : PE X (.Constant .none j pos) (tC .non) := fun _ _ _ H _ I h => Constant_none ⟨.non, H, I, rfl, h⟩
theorem pe_str {x j pos} : PE X (.Constant (.str x) j pos) (tC (.str x)) := fun _ _ _ H _ I h => Calls.Constant_str ⟨.str x, H, I.tok _, ⟨_, rfl⟩, h⟩
def Gl (X : Cx) (x : Str) : Prop := X.env.kindOf x = some .globalImplicit
theorem ld_glob {E : Value → Shared → Prop} {pins : List (Addr × Obj)} {s : Shared} {σ : St} {H : Hp} {x : Str} {u : Value} {pos : Pos} {Q : Value → Shared → Prop} (I : Inv X pins σ H s) (hg : Gl X x) (hm : X.mg x = some u) (h : Q u s)
    (hd : (x == ("__debug__" : Str)) = false := by decide) : wpAny (model X.prog X.w) X.A (eval (.Name x pos) X.env) Q E s :=
  Calls.Name_function_global I.ok.kind hg (Calls.loadGlobal_global (by rw [I.ok.glob]; exact I.mod.glob.keeps I.bk) hm h) hd
theorem ld_blt {E : Value → Shared → Prop} {pins : List (Addr × Obj)} {s : Shared} {σ : St} {H : Hp} {x : Str} {u : Value} {pos : Pos} {Q : Value → Shared → Prop} (I : Inv X pins σ H s) (hg : Gl X x) (hm : X.mg x = none) (hv : bootBuiltins x = some u) (h : Q u s)
    (hn : x ≠ "__name__" := by decide) (hd : (x == ("__debug__" : Str)) = false := by decide) : wpAny (model X.prog X.w) X.A (eval (.Name x pos) X.env) Q E s := by
  obtain ⟨mb, h1, h2⟩ := I.mod.blt
  exact Calls.Name_function_global I.ok.kind hg (Calls.loadGlobal_builtin (by rw [I.ok.glob]; exact I.mod.glob.keeps I.bk) hm (by rw [I.ok.blt]; exact h1.keeps I.bk) ((h2 x hn).trans hv) h) hd
theorem pe_glob {x : Str} {v : V} {u : Value} {pos : Pos} (hg : Gl X x) (hm : X.mg x = some u) (r : RelV v u) (hd : (x == ("__debug__" : Str)) = false := by decide) : PE X (.Name x pos) (tC v) :=
  fun _ _ _ H _ I h => ld_glob I hg hm ⟨v, H, I, r, h⟩ hd
theorem pe_bltn {x : Str} {v : V} {u : Value} {pos : Pos} (hg : Gl X x) (hm : X.mg x = none) (hv : bootBuiltins x = some u) (r : RelV v u) (hn : x ≠ "__name__" := by decide) (hd : (x == ("__debug__" : Str)) = false := by decide) : PE X (.Name x pos) (tC v) :=
  fun _ _ _ H _ I h => ld_blt I hg hm hv ⟨v, H, I, r, h⟩ hn hd
variable {a b : Expr} {ta tb : TE} {pos : Pos}
def tB (t : TE) : TT := fun σ H Q => t σ H fun x H1 => ∃ c, x = .bl c ∧ Q c H1
theorem pt_val {e : Expr} {t : TE} (h : PE X e t) (he : ∀ whole, isTrue e X.env whole = (do let v ← whole; standAt e.pos; holding [v] (truthy v)) := by intro _; rfl) : PT X e (tB t) := by
  intro pins s σ H Q I hw
  refine isTrue_plain (thn (h pins s σ H _ I hw) fun v s1 ⟨x, H1, I1, r1, q1⟩ => ?_) (he _)
  obtain ⟨d, rfl, q⟩ := q1
  cases r1
  exact wpAny_truthy_bool ⟨H1, I1, q⟩
variable {tA tB' : TT} {rest : List Expr}
def tAnd (t u : TT) : TT := fun σ H Q => t σ H fun c H1 => if c = true then u σ H1 Q else Q false H1
def tOr (t u : TT) : TT := fun σ H Q => t σ H fun c H1 => if c = true then Q true H1 else u σ H1 Q
def tNot (t : TT) : TT := fun σ H Q => t σ H fun c H1 => Q (!c) H1
theorem pw_and1 (ha : PT X a tA) : PW X (.BoolOp .And [a] pos) tA := by
  intro wh pins s σ H Q I h
  refine isTrue_and (thn (ha pins s σ H Q I h) fun c s1 e => ?_)
  cases c with
  | true => exact isTrue_and_nil e
  | false => exact e
theorem pw_or1 (ha : PT X a tA) : PW X (.BoolOp .Or [a] pos) tA := by
  intro wh pins s σ H Q I h
  refine isTrue_or (thn (ha pins s σ H Q I h) fun c s1 e => ?_)
  cases c with
  | false => exact isTrue_or_nil e
  | true => exact e
theorem pw_and (ha : PT X a tA) (hb : PW X (.BoolOp .And (b :: rest) pos) tB') : PW X (.BoolOp .And (a :: b :: rest) pos) (tAnd tA tB') := by
  intro wh pins s σ H Q I h
  refine isTrue_and (thn (ha pins s σ H _ I h) fun c s1 ⟨H1, I1, q1⟩ => ?_)
  cases c with
  | true => exact hb wh pins s1 σ H1 Q I1 q1
  | false => exact ⟨H1, I1, q1⟩
theorem pw_or (ha : PT X a tA) (hb : PW X (.BoolOp .Or (b :: rest) pos) tB') : PW X (.BoolOp .Or (a :: b :: rest) pos) (tOr tA tB') := by
  intro wh pins s σ H Q I h
  refine isTrue_or (thn (ha pins s σ H _ I h) fun c s1 ⟨H1, I1, q1⟩ => ?_)
  cases c with
  | true => exact ⟨H1, I1, q1⟩
  | false => exact hb wh pins s1 σ H1 Q I1 q1
theorem pt_not (ha : PT X a tA) : PT X (.UnaryOp .Not a pos) (tNot tA) := by
  intro pins s σ H Q I h
  exact isTrue_not (ha pins s σ H (fun c H1 => Q (!c) H1) I h)
def tAndV (ta tb : TE) : TE := fun σ H Q => ta σ H fun x H1 => ∃ c, x = .bl c ∧ if c = true then tb σ H1 Q else Q (.bl false) H1
theorem pe_one {op} {t : TE} (h : PE X a t) : PE X (.BoolOp op [a] pos) t := fun pins s σ H Q I hw => BoolOp_one (h pins s σ H Q I hw)
theorem pe_and (ha : PE X a ta) (hb : PE X (.BoolOp .And (b :: rest) pos) tb) : PE X (.BoolOp .And (a :: b :: rest) pos) (tAndV ta tb) := by
  intro pins s σ H Q I h
  refine BoolOp_and (thn (ha pins s σ H _ I h) fun v s1 ⟨x, H1, I1, r1, q1⟩ => ?_)
  obtain ⟨c, rfl, q1⟩ := q1
  cases r1
  refine wpAny_truthy_bool ?_
  cases c with
  | true => exact hb pins s1 σ H1 Q I1 q1
  | false => exact ⟨.bl false, H1, I1, rfl, q1⟩
def tIf (t : TT) (ta tb : TE) : TE := fun σ H Q => t σ H fun c H1 => if c = true then ta σ H1 Q else tb σ H1 Q
theorem pe_ifExp {c : Expr} (hc : PT X c tA) (ha : PE X a ta) (hb : PE X b tb) : PE X (.IfExp c a b pos) (tIf tA ta tb) := by
  intro pins s σ H Q I h
  refine wpAny_IfExp (thn (hc pins s σ H _ I h) fun d s1 ⟨H1, I1, q1⟩ => ?_)
  cases d with
  | true => exact ha pins s1 σ H1 Q I1 q1
  | false => exact hb pins s1 σ H1 Q I1 q1
end
end L2
namespace L2
open PySem PySem.Spec PyProof.Rows
def SqL (K : PySem.W.Frag) (H : Hp) (a : Addr) (xs : List V) : Prop :=
  Rd H a (.lst xs) ∨
    ∃ (o : Obj) (its : Array Value) (n : Nat), K.lookup a = some o ∧ o.cls = .type "list" ∧ o.dict = none ∧ o.data = .seq its n ∧ its.size ≤ sizeLine ∧ Vals xs its.toList
def SqT (K : PySem.W.Frag) (H : Hp) (a : Addr) (xs : List V) : Prop :=
  Rd H a (.tup xs) ∨
    ∃ (o : Obj) (its : Array Value) (n : Nat), K.lookup a = some o ∧ o.cls = .type "tuple" ∧ o.data = .seq its n ∧ its.size ≤ sizeLine ∧ Vals xs its.toList
def absV : Value → Option V
  | .none => some .non
  | .bool b => some (.bl b)
  | .int i _ => some (.int i)
  | .str x _ => some (.str x)
  | .bytes b _ => some (.byt b)
  | .float b _ => some (.flt b)
  | .ref a => some (.ref a)
  | .type n => some (.ty n)
  | _ => none
theorem RelV.abs {x : V} {u : Value} (r : RelV x u) : absV u = some x := by
  cases x with
  | non => cases r; rfl
  | bl _ => cases r; rfl
  | int _ => obtain ⟨t, rfl⟩ := r; rfl
  | str _ => obtain ⟨t, rfl⟩ := r; rfl
  | byt _ => obtain ⟨t, rfl⟩ := r; rfl
  | flt _ => obtain ⟨t, rfl⟩ := r; rfl
  | ref _ => cases r; rfl
  | ty _ => cases r; rfl
theorem RelV.inj {x y : V} {u : Value} (r : RelV x u) (q : RelV y u) : x = y := Option.some.inj (r.abs.symm.trans q.abs)
theorem Vals.inj : ∀ {xs ys : List V} {us : List Value}, Vals xs us → Vals ys us → xs = ys
  | _, _, _, .nil, .nil => rfl
  | _, _, _, .cons r t, .cons r' t' => by rw [r.inj r', Vals.inj t t']
section
variable {X : Cx} {pins : List (Addr × Obj)} {σ : St} {H : Hp} {s : Shared} {a : Addr} {xs ys : List V}
theorem SqL.of {K : PySem.W.Frag} (h : H a = some (.lst xs)) : SqL K H a xs := .inl (.inl h)
theorem SqT.of {K : PySem.W.Frag} (h : H a = some (.tup xs)) : SqT K H a xs := .inl (.inl h)
theorem Inv.list (I : Inv X pins σ H s) (h : SqL X.K H a xs) : ∃ its : List Value, Vals xs its ∧ PlainL s.heap a its.toArray ∧ xs.length ≤ sizeLine := by
  rcases h with h | ⟨o, its, n, hk, hc, hd, hs, hz, r⟩
  · obtain ⟨z, its, n, r, e⟩ := h.ok I.hok
    exact ⟨its, r, ⟨_, n, e, rfl, rfl, rfl⟩, z⟩
  · refine ⟨its.toList, r, ⟨o, n, I.kIn a o hk, hc, hd, by simpa using hs⟩, ?_⟩
    have e := r.length
    simp only [Array.length_toList] at e
    omega
theorem Inv.tuple (I : Inv X pins σ H s) (h : SqT X.K H a xs) : ∃ its : List Value, Vals xs its ∧ IsTup s.heap a its.toArray ∧ xs.length ≤ sizeLine := by
  rcases h with h | ⟨o, its, n, hk, hc, hs, hz, r⟩
  · obtain ⟨z, its, r, p⟩ := h.ok I.hok
    exact ⟨its, r, p, z⟩
  · refine ⟨its.toList, r, ⟨o, I.kIn a o hk, hc, n, by simpa using hs⟩, ?_⟩
    have e := r.length
    simp only [Array.length_toList] at e
    omega
theorem Inv.list_inj (I : Inv X pins σ H s) (h : SqL X.K H a xs) (h' : SqL X.K H a ys) : xs = ys := by
  obtain ⟨its, r, ⟨o, n, e, _, _, d⟩, _⟩ := I.list h
  obtain ⟨its', r', ⟨o', n', e', _, _, d'⟩, _⟩ := I.list h'
  rw [e] at e'; cases e'
  rw [d] at d'
  injection d' with d1 _
  have : its = its' := by simpa using congrArg Array.toList d1
  subst this
  exact r.inj r'
theorem Inv.tuple_inj (I : Inv X pins σ H s) (h : SqT X.K H a xs) (h' : SqT X.K H a ys) : xs = ys := by
  obtain ⟨its, r, ⟨o, e, _, n, d⟩, _⟩ := I.tuple h
  obtain ⟨its', r', ⟨o', e', _, n', d'⟩, _⟩ := I.tuple h'
  rw [e] at e'; cases e'
  rw [d] at d'
  injection d' with d1 _
  have : its = its' := by simpa using congrArg Array.toList d1
  subst this
  exact r.inj r'
end
abbrev Cx.wish (X : Cx) (E : Value → Shared → Prop) : Cx := { X with xe := E }
abbrev Cx.nox (X : Cx) : Cx := X.wish fun _ _ => False
theorem Cx.Ok.wish {X : Cx} (ok : X.Ok) (E : Value → Shared → Prop) : (X.wish E).Ok :=
  ⟨ok.mod, ok.kind, ok.glob, ok.blt, ok.above, ok.inj, ok.has, ok.cab, ok.hd, ok.frames, ok.stk, ok.exf, ok.bs, ok.bsz, ok.noex, ok.exfs, ok.funs, ok.frf⟩
theorem Cx.Ok.unwish {X : Cx} {E : Value → Shared → Prop} (ok : (X.wish E).Ok) : X.Ok :=
  ⟨ok.mod, ok.kind, ok.glob, ok.blt, ok.above, ok.inj, ok.has, ok.cab, ok.hd, ok.frames, ok.stk, ok.exf, ok.bs, ok.bsz, ok.noex, ok.exfs, ok.funs, ok.frf⟩
section
variable {X : Cx} {pins : List (Addr × Obj)} {σ : St} {H : Hp} {s : Shared} {E : Value → Shared → Prop}
theorem Inv.wish (I : Inv X pins σ H s) (E : Value → Shared → Prop) : Inv (X.wish E) pins σ H s := ⟨I.ok.wish E, I.os, I.bare, I.base, I.loc, I.cell, I.free, I.freeC, I.pin, I.hok, I.len⟩
theorem Inv.unwish (I : Inv (X.wish E) pins σ H s) : Inv X pins σ H s := ⟨I.ok.unwish, I.os, I.bare, I.base, I.loc, I.cell, I.free, I.freeC, I.pin, I.hok, I.len⟩
theorem SP.unwish {D : Ends} {f : Flow} {s' : Shared} (h : SP (X.wish E) pins D f s') : SP X pins D f s' := by
  cases f with
  | next => obtain ⟨σ', H', I, q⟩ := h; exact ⟨σ', H', I.unwish, q⟩
  | brk => obtain ⟨σ', H', I, q⟩ := h; exact ⟨σ', H', I.unwish, q⟩
  | cont => obtain ⟨σ', H', I, q⟩ := h; exact ⟨σ', H', I.unwish, q⟩
  | ret u => obtain ⟨v, σ', H', I, r, q⟩ := h; exact ⟨v, σ', H', I.unwish, r, q⟩
theorem PE.nox {e : Expr} {t : TE} (h : PE X.nox e t) : PE X e t := fun pins s σ H Q I hw =>
  wpAny_mono (h pins s σ H Q (I.wish _) hw) (fun _ _ ⟨v, H', I', r, q⟩ => ⟨v, H', I'.unwish, r, q⟩) fun _ _ z => False.elim z
theorem PT.nox {e : Expr} {t : TT} (h : PT X.nox e t) : PT X e t := fun pins s σ H Q I hw =>
  wpAny_mono (h pins s σ H Q (I.wish _) hw) (fun _ _ ⟨H', I', q⟩ => ⟨H', I'.unwish, q⟩) fun _ _ z => False.elim z
theorem PSs.nox {st : List Stmt} {t : TS} (h : PSs X.nox st t) : PSs X st t := fun pins s σ H D I hw =>
  wpAny_mono (h pins s σ H D (I.wish _) hw) (fun _ _ q => q.unwish) fun _ _ z => False.elim z
end
section
variable {X : Cx} {st : Stmt} {rest : List Stmt} {t u : TS} {e : Expr} {te : TE} {pos : Pos}
def tNext : TS := fun D σ H => D.nx σ H
def tSeq (t u : TS) : TS := fun D σ H => t { D with nx := u D } σ H
theorem pss_nil : PSs X [] tNext := fun _ _ σ H _ I h => wpAny_execs_nil ⟨σ, H, I, h⟩
theorem pss_cons (h1 : PS X st t) (h2 : PSs X rest u) : PSs X (st :: rest) (tSeq t u) := by
  intro pins s σ H D I h
  refine wpAny_execs_cons (thn (h1 pins s σ H { D with nx := u D } I h) fun f s1 q => ?_)
  cases f with
  | next =>
    obtain ⟨σ', H', I', q⟩ := q
    exact h2 pins s1 σ' H' D I' q
  | ret v => exact q
  | brk => exact q
  | cont => exact q
theorem pss_one (h1 : PS X st t) : PSs X [st] t := by
  intro pins s σ H D I h
  refine wpAny_execs_cons (thn (h1 pins s σ H D I h) fun f s1 q => ?_)
  cases f with
  | next => exact wpAny_execs_nil q
  | ret v => exact q
  | brk => exact q
  | cont => exact q
def tCont : TS := fun D σ H => D.ct σ H
theorem ps_continue : PS X (.Continue pos) tCont := fun _ _ σ H _ I h => wpAny_Continue ⟨σ, H, I, h⟩
theorem Inv.quiet {pins : List (Addr × Obj)} {σ : St} {H : Hp} {s : Shared} (I : Inv X pins σ H s) : interactive X.env = false := by simp [interactive, I.ok.kind]
def tDrop (te : TE) : TS := fun D σ H => te σ H fun _ H1 => D.nx σ H1
theorem ps_expr (he : PE X e te) (hs : swapsWith e none pos.line X.env = pure false := by rfl) : PS X (.Expr e pos) (tDrop te) := by
  intro pins s σ H D I h
  exact wpAny_Expr_any (thn (he pins s σ H _ I h) fun v s1 ⟨x, H1, I1, r1, q1⟩ => ⟨σ, H1, I1, q1⟩) I.quiet hs
def tRet (te : TE) : TS := fun D σ H => te σ H D.rt
theorem ps_ret (he : PE X e te) : PS X (.Return (some e) pos) (tRet te) := by
  intro pins s σ H D I h
  exact wpAny_Return_some (thn (he pins s σ H _ I h) fun v s1 ⟨x, H1, I1, r1, q1⟩ => ⟨x, σ, H1, I1, r1, q1⟩)
def tIfS (c : TT) (t u : TS) : TS := fun D σ H => c σ H fun b H1 => if b = true then t D σ H1 else u D σ H1
theorem ps_if {c : Expr} {a b : List Stmt} {tc : TT} (hc : PT X c tc) (ha : PSs X a t) (hb : PSs X b u) : PS X (.If c a b pos) (tIfS tc t u) := by
  intro pins s σ H D I h
  refine wpAny_If (thn (hc pins s σ H _ I h) fun d s1 ⟨H1, I1, q1⟩ => ?_)
  cases d with
  | true => exact ha pins s1 σ H1 D I1 q1
  | false => exact hb pins s1 σ H1 D I1 q1
def tNever : TS := fun _ _ _ => False
theorem pss_never {sts : List Stmt} : PSs X sts tNever := fun _ _ _ _ _ _ h => h.elim
end
abbrev TG := V → St → Hp → (St → Hp → Prop) → Prop
abbrev TGs := List V → St → Hp → (St → Hp → Prop) → Prop
def PG (X : Cx) (target : Expr) (t : TG) : Prop :=
  ∀ (pins : List (Addr × Obj)) (s : Shared) (σ : St) (H : Hp) (v : V) (u : Value) (Q : St → Hp → Prop), Inv X pins σ H s → RelV v u → t v σ H Q →
    wpAny (model X.prog X.w) X.A (assign target X.env u) (fun _ s' => ∃ σ' H', Inv X pins σ' H' s' ∧ Q σ' H') X.xe s
def PGs (X : Cx) (ts : List Expr) (t : TGs) : Prop :=
  ∀ (pins : List (Addr × Obj)) (s : Shared) (σ : St) (H : Hp) (vs : List V) (us : List Value) (Q : St → Hp → Prop), Inv X pins σ H s → Vals vs us → t vs σ H Q →
    wpAny (model X.prog X.w) X.A (assignInOrder ((assignEach ts X.env).map (·.2)) us) (fun _ s' => ∃ σ' H', Inv X pins σ' H' s' ∧ Q σ' H') X.xe s
abbrev TSet := V → V → V → Hp → (Hp → Prop) → Prop
def PSet (X : Cx) (t : TSet) : Prop :=
  ∀ (pins : List (Addr × Obj)) (s : Shared) (σ : St) (H : Hp) (o i v : V) (ov iv u : Value) (Q : Hp → Prop), Inv X pins σ H s → RelV o ov → RelV i iv → RelV v u → t o i v H Q →
    wpAny (model X.prog X.w) X.A (setItem ov iv u) (fun _ s' => ∃ H', Inv X pins σ H' s' ∧ Q H') X.xe s
abbrev TIp := V → V → Hp → VK → Prop
def PIp (X : Cx) (op : Operator) (t : TIp) : Prop :=
  ∀ (pins : List (Addr × Obj)) (s : Shared) (σ : St) (H : Hp) (x y : V) (v u : Value) (Q : VK), Inv X pins σ H s → RelV x v → RelV y u → t x y H Q →
    wpAny (model X.prog X.w) X.A (inplaceOp op v u) (EP X pins σ Q) X.xe s
section
variable {X : Cx} {pos : Pos}
def gName (i : Nat) : TG := fun v σ H Q => Q (σ.set i (some v)) H
theorem pg_name {i : Nat} {x : Str} (hN : X.N.Nodup) (hi : X.N[i]? = some x) (hx : Loc X.env.scope x) (hf : X.fn x = true ∨ X.env.scope.names.lookup x = some .local := by first | exact .inl rfl | exact .inr rfl | assumption) : PG X (.Name x pos) (gName i) := by
  intro pins s σ H v u Q I r h
  exact wpAny_assign_Name (store_ok I hN hi hx r (fun s' I' => ⟨_, H, I', h⟩) hf)
def gNil : TGs := fun vs σ H Q => vs = [] ∧ Q σ H
def gCons (t : TG) (u : TGs) : TGs := fun vs σ H Q => ∃ v r, vs = v :: r ∧ t v σ H fun σ' H' => u r σ' H' Q
theorem pgs_nil : PGs X [] gNil := by
  intro pins s σ H vs us Q I r h
  obtain ⟨e, h⟩ := h
  subst e
  cases r
  exact assignInOrder_nil ⟨σ, H, I, h⟩
theorem pgs_cons {e : Expr} {es : List Expr} {t : TG} {u : TGs} (h1 : PG X e t) (h2 : PGs X es u)
    (hs : (assignEach (e :: es) X.env).map (·.2) = assign e X.env :: (assignEach es X.env).map (·.2) := by rfl) : PGs X (e :: es) (gCons t u) := by
  intro pins s σ H vs us Q I r h
  obtain ⟨v, vr, e1, h⟩ := h
  subst e1
  cases r with
  | cons r rr =>
    rw [hs]
    refine assignInOrder_cons (thn (h1 pins s σ H _ _ _ I r h) fun _ s1 ⟨σ1, H1, I1, q1⟩ => ?_)
    exact h2 pins s1 σ1 H1 _ _ Q I1 rr q1
def gTup (K : PySem.W.Frag) (n : Nat) (t : TGs) : TG := fun v σ H Q => ∃ a xs, v = .ref a ∧ SqT K H a xs ∧ xs.length = n ∧ t xs σ H Q
theorem pg_tup {es : List Expr} {k : Nat} {t : TGs} {n : Nat} (hc : X.calm = true) (h : PGs X es t)
    (hn : (assignEach es X.env).length = n := by rfl) (hst : (assignEach es X.env).findIdx? (·.1) = none := by rfl) : PG X (.Tuple es k pos) (gTup X.K n t) := by
  intro pins s σ H v u Q I r hw
  obtain ⟨a, xs, e1, hq, hl, hw⟩ := hw
  subst e1
  cases r
  obtain ⟨its, rv, ht, hz⟩ := I.tuple hq
  refine assign_Tuple_tuple (I.ok.hd hc) ht (by simp [hn, ← hl, rv.length]) hst fun h' hx => ?_
  have I1 : Inv X pins σ H { s with heap := h' } := I.kept (t' := s.toks) fun b o e => hx b o (Nat.ne_of_lt (Heap.lt_size e)) e
  exact h pins _ σ H xs _ Q I1 (by simpa using rv) hw
def gSub (to ti : TE) (t : TSet) : TG := fun v σ H Q => to σ H fun o H1 => ti σ H1 fun i H2 => t o i v H2 fun H3 => Q σ H3
theorem pg_sub {o i : Expr} {to ti : TE} {t : TSet} (ho : PE X o to) (hi : PE X i ti) (hs : PSet X t)
    (ha : ∀ v, assign (.Subscript o i pos) X.env v = (do
      let ov ← holding [v] (eval o X.env)
      let iv ← holding [v, ov] (eval i X.env)
      standAt pos
      holding [v, ov, iv] (setItem ov iv v)
      release [v, ov, iv] []) := by intro _; rfl) : PG X (.Subscript o i pos) (gSub to ti t) := by
  intro pins s σ H v u Q I r h
  rw [ha]
  refine wpAny_bind (wpAny_holding (thn (ho pins s σ H _ I h) fun ov s1 ⟨x, H1, I1, r1, q1⟩ => ?_))
  refine wpAny_bind (wpAny_holding (thn (hi pins s1 σ H1 _ I1 q1) fun iv s2 ⟨y, H2, I2, r2, q2⟩ => ?_))
  refine wpAny_bind (wpAny_standAt (wpAny_bind (wpAny_holding (thn (hs pins s2 σ H2 x y v ov iv u _ I2 r1 r2 r q2) fun _ s3 ⟨H3, I3, q3⟩ => ?_))))
  exact wpAny_release ⟨σ, H3, I3, q3⟩
def tAsg (te : TE) (g : TG) : TS := fun D σ H => te σ H fun x H1 => g x σ H1 D.nx
theorem ps_asg {tg e : Expr} {te : TE} {g : TG} (he : PE X e te) (hg : PG X tg g) (hs : swapsWithSole [tg] e pos.line X.env = pure false := by rfl) (hw : swappedStores [tg] e X.env = pure none := by rfl)
    (h1 : (assignEach [tg] X.env).map (·.2) = [assign tg X.env] := by rfl) : PS X (.Assign [tg] e pos) (tAsg te g) := by
  intro pins s σ H D I h
  refine wpAny_Assign_stores (thn (he pins s σ H _ I h) fun v s1 ⟨x, H1, I1, r1, q1⟩ => ?_) hs hw
  rw [h1]
  exact thn (hg pins s1 σ H1 x v _ I1 r1 q1) fun _ s2 q => q
theorem ps_set {i : Nat} {x : Str} {e : Expr} {te : TE} {pos' : Pos} (hN : X.N.Nodup) (hi : X.N[i]? = some x) (hx : Loc X.env.scope x) (he : PE X e te) (hs : swapsWith e (some (.Name x pos')) pos.line X.env = pure false := by rfl) (hf : X.fn x = true ∨ X.env.scope.names.lookup x = some .local := by first | exact .inl rfl | exact .inr rfl | assumption) :
    PS X (.Assign [.Name x pos'] e pos) (tAsg te (gName i)) := by
  intro pins s σ H D I h
  refine wpAny_Assign_Name (thn (he pins s σ H _ I h) fun v s1 ⟨y, H1, I1, r1, q1⟩ => ?_) hs
  exact store_ok I1 hN hi hx r1 (fun s2 I2 => ⟨_, H1, I2, q1⟩) hf
def tAug (i : Nat) (te : TE) (ti : TIp) : TS := fun D σ H => ∃ x, σ[i]? = some (some x) ∧ te σ H fun y H1 => ti x y H1 fun z H2 => D.nx (σ.set i (some z)) H2
theorem ps_aug {i : Nat} {x : Str} {e : Expr} {te : TE} {op : Operator} {ti : TIp} {pos' : Pos} (hN : X.N.Nodup) (hi : X.N[i]? = some x) (hx : Loc X.env.scope x) (he : PE X e te) (ho : PIp X op ti) (hf : X.fn x = true ∨ X.env.scope.names.lookup x = some .local := by first | exact .inl rfl | exact .inr rfl | assumption) :
    PS X (.AugAssign (.Name x pos') op e pos) (tAug i te ti) := by
  intro pins s σ H D I h
  obtain ⟨v, e1, h⟩ := h
  obtain ⟨m, hn, hl⟩ := I.loc
  have vis : Vis X.env.scope x := by rcases hx with k | k; exact .inl k; exact .inr (.inl k)
  obtain ⟨u, r, l⟩ := hl i x v hi e1 vis
  refine wpAny_AugAssign_Name ?_
  have go : wpAny (model X.prog X.w) X.A (eval e X.env) (fun w s₂ => wpAny (model X.prog X.w) X.A (inplaceOp op u w) (fun r s₃ => wpAny (model X.prog X.w) X.A (storeName X.env x r) (fun _ => SP X pins D .next) X.xe s₃) X.xe s₂) X.xe s := by
    refine thn (he pins s σ H _ I h) fun w s1 ⟨y, H1, I1, r1, q1⟩ => ?_
    refine thn (ho pins s1 σ H1 v y u w _ I1 r r1 q1) fun z s2 ⟨zv, H2, I2, r2, q2⟩ => ?_
    exact store_ok I2 hN hi hx r2 (fun s3 I3 => ⟨_, H2, I3, q2⟩) hf
  rcases l with ⟨hk, hm⟩ | ⟨hk, c, hc, hcell⟩
  · exact wpAny_loadName_local I.ok.kind hk hn hm go
  · rcases hk with hk | hk
    · exact wpAny_loadName_cell I.ok.kind hk hc hcell go
    · rcases hx with k | k
      · have : X.env.scope.names.lookup x = some .free := hk
        rw [k] at this; cases this
      · have : X.env.scope.names.lookup x = some .free := hk
        rw [k] at this; cases this
def ipI (f : Int → Int → Int) : TIp := fun x y H Q => ∃ i j, x = .int i ∧ y = .int j ∧ Q (.int (f i j)) H
theorem ip_add : PIp X .Add (ipI fun i j => i + j) := by
  intro pins s σ H x y v u Q I r1 r2 h
  obtain ⟨i, j, e1, e2, q⟩ := h
  subst e1; subst e2
  obtain ⟨t, rfl⟩ := r1
  obtain ⟨t', rfl⟩ := r2
  exact iadd_int ⟨.int _, H, I.tok _, ⟨_, rfl⟩, q⟩
end
section
variable {X : Cx} {pos : Pos}
def tWhile (c : TT) (tb : TS) : TS := fun D σ H => ∃ W : Nat → St → Hp → Prop, (∃ m, W m σ H) ∧ ∀ m σ H, W m σ H →
  c σ H fun b H1 => if b = true then ∃ N : St → Hp → Prop, (∀ σ' H', N σ' H' → ∃ m', m' < m ∧ W m' σ' H') ∧ tb { D with nx := N, ct := N, bk := D.nx } σ H1 else D.nx σ H1
theorem ps_while {c : Expr} {body : List Stmt} {tc : TT} {tb : TS} (hp : PassesOwn (model X.prog X.w) X.A X.env X.xe) (hc : PT X c tc) (hb : PSs X body tb) : PS X (.While c body [] pos) (tWhile tc tb) := by
  intro pins s σ H D I h
  obtain ⟨W, ⟨m0, w0⟩, turn⟩ := h
  refine wpAny_While (codeAny_whileLoop (fun n s' => ∃ σ' H', Inv X pins σ' H' s' ∧ W n σ' H') ?_ m0 ⟨σ, H, I, w0⟩)
  rintro n s1 ⟨σ1, H1, I1, w1⟩
  refine wpAny_passesOwn hp (thn (hc pins s1 σ1 H1 _ I1 (turn n σ1 H1 w1)) fun b s2 ⟨H2, I2, q2⟩ => ?_)
  cases b with
  | true =>
    obtain ⟨N, hN, q2⟩ := q2
    rw [if_pos rfl]
    refine wpAny_passesOwn hp (thn (hb pins s2 σ1 H2 _ I2 q2) fun f s3 q3 => ?_)
    cases f with
    | next =>
      obtain ⟨σ3, H3, I3, n3⟩ := q3
      obtain ⟨m', hm, w3⟩ := hN σ3 H3 n3
      exact ⟨m', hm, σ3, H3, I3, w3⟩
    | cont =>
      obtain ⟨σ3, H3, I3, n3⟩ := q3
      obtain ⟨m', hm, w3⟩ := hN σ3 H3 n3
      exact ⟨m', hm, σ3, H3, I3, w3⟩
    | brk => exact q3
    | ret v => exact q3
  | false =>
    rw [if_neg Bool.false_ne_true]
    exact wpAny_execs_nil ⟨σ1, H2, I2, q2⟩
end
structure It where
  go : Nat → Hp → Prop
  yld : Nat → Hp → V → Hp → Prop
  stop : Nat → Hp → Prop
def FpOk (X : Cx) (pins : List (Addr × Obj)) (H : Hp) (b : Addr) : Prop :=
  H b = none ∧ b ≠ X.env.locals ∧ b ∉ X.fs ∧ (b ∈ X.ex ∨ X.s₀.heap.objs.size ≤ b) ∧ (∀ x c, X.env.cells.lookup x = some c → c ≠ b) ∧ ∀ p ∈ X.pn ++ pins, p.1 ≠ b
theorem Inv.fpOk {X : Cx} {pins : List (Addr × Obj)} {σ : St} {H H' : Hp} {s : Shared} {b : Addr} (I : Inv X pins σ H s) (hb : s.heap.objs.size ≤ b) (hn : H' b = none) : FpOk X pins H' b := by
  refine ⟨hn, Nat.ne_of_gt (Nat.lt_of_lt_of_le I.lt hb), I.nofs hb, .inr (Nat.le_trans I.sz hb), fun x c e z => ?_, fun p hp z => ?_⟩
  · obtain ⟨v, q⟩ := I.cell x c e
    exact absurd (Nat.lt_of_lt_of_le q.lt (by rw [z]; exact hb)) (Nat.lt_irrefl _)
  · exact absurd (Nat.lt_of_lt_of_le (Heap.lt_size (I.pin p hp).1) (by rw [z]; exact hb)) (Nat.lt_irrefl _)
structure Turn (P : Program) (w : World) (K : PySem.W.Frag) (tg : Expr) (J : It) (fp : List Addr) (it : Addr) (tn : Nat → Heap → Prop) : Prop where
  mem : it ∈ fp
  obj : ∀ i h, tn i h → ∀ b ∈ fp, ∃ o, h.get? b = some o ∧ ∀ v, o.data ≠ .cell v
  keep : ∀ i h h', tn i h → (∀ b ∈ fp, ∀ o, h.get? b = some o → h'.get? b = some o) → tn i h'
  item : ∀ (X : Cx), X.prog = P → X.w = w → X.K = K → X.calm = true → ∀ (i : Nat) (pins : List (Addr × Obj)) (s : Shared) (σ : St) (H : Hp) (E : Value → Shared → Prop), Inv X pins σ H s → (∀ b ∈ fp, FpOk X pins H b) → tn i s.heap → J.go i H →
    wpAny (model P w) X.A (pyNext (.ref it)) (fun r s1 => ∃ u, r = some u ∧
      wpAny (model P w) X.A (letOwnedTupleGo tg (.ref it) u) (fun _ s2 => ∃ x H', Inv X pins σ H' s2 ∧ RelV x u ∧ J.yld i H x H' ∧ tn (i + 1) s2.heap ∧ ∀ b ∈ fp, H' b = none) E s1) E s
  done : ∀ (X : Cx), X.prog = P → X.w = w → X.K = K → X.calm = true → ∀ (i : Nat) (pins : List (Addr × Obj)) (s : Shared) (σ : St) (H : Hp) (E : Value → Shared → Prop), Inv X pins σ H s → (∀ b ∈ fp, FpOk X pins H b) → tn i s.heap → J.stop i H →
    wpAny (model P w) X.A (pyNext (.ref it)) (fun r s1 => r = none ∧ Inv X pins σ H s1) E s
  self : ∀ (A : Around) (i : Nat) (s : Shared) (Q : Value → Shared → Prop) (E : Value → Shared → Prop), tn i s.heap → Q (.ref it) s → wpAny (model P w) A (pyIter (.ref it)) Q E s
abbrev TI := St → Hp → (It → Hp → Prop) → Prop
def PIE (X : Cx) (pins : List (Addr × Obj)) (σ : St) (tg : Expr) (R : It → Hp → Prop) (itv : Value) (s2 : Shared) : Prop :=
  ∃ (it : Addr) (fp : List Addr) (tn : Nat → Heap → Prop) (J : It) (H' : Hp), itv = .ref it ∧ Inv X pins σ H' s2 ∧ Turn X.prog X.w X.K tg J fp it tn ∧ tn 0 s2.heap ∧ (∀ b ∈ fp, FpOk X pins H' b) ∧ R J H'
def PI (X : Cx) (tg iter : Expr) (wi : TI) : Prop :=
  ∀ (pins : List (Addr × Obj)) (s : Shared) (σ : St) (H : Hp) (R : It → Hp → Prop), Inv X pins σ H s → wi σ H R →
    wpAny (model X.prog X.w) X.A (eval iter X.env) (fun v s1 => wpAny (model X.prog X.w) X.A (pyIter v) (PIE X pins σ tg R) X.xe s1) X.xe s
theorem go_of {M : Model} {A : Around} {E : Value → Shared → Prop} {s : Shared} {tg : Expr} {it : Addr} {u : Value} {o : Obj} {n : String} {vs : Array Value} {Q : Unit → Shared → Prop} (ho : s.heap.get? it = some o) (hc : o.cls = .type n) (hd : o.data = .fields vs)
    (hn : ["enumerate", "zip", "dict_itemiterator", "dict_reverseitemiterator", "odict_iterator", "itertools.zip_longest", "itertools.pairwise"].contains n = false) (hQ : Q () s) : wpAny M A (letOwnedTupleGo tg (.ref it) u) Q E s := by
  unfold letOwnedTupleGo
  cases tg <;> first
    | exact wpAny_pure hQ
    | (cases u <;> first
        | exact wpAny_pure hQ
        | (refine wpAny_bind (wpAny_load ho ?_)
           rw [hc, hd]
           show wpAny M A (if (["enumerate", "zip", "dict_itemiterator", "dict_reverseitemiterator", "odict_iterator", "itertools.zip_longest", "itertools.pairwise"].contains n && vs[0]? == some (rawInt _)) = true then _ else _) Q E s
           rw [if_neg (by intro h; rw [hn, Bool.false_and] at h; cases h)]
           exact wpAny_pure hQ))
def Itl (K : PySem.W.Frag) (a : Addr) : It :=
  ⟨fun i H => ∃ xs x, SqL K H a xs ∧ xs[i]? = some x, fun i H x H' => H' = H ∧ ∀ xs, SqL K H a xs → xs[i]? = some x, fun i H => ∃ xs, SqL K H a xs ∧ xs.length ≤ i⟩
def Itt (K : PySem.W.Frag) (a : Addr) : It :=
  ⟨fun i H => ∃ xs x, SqT K H a xs ∧ xs[i]? = some x, fun i H x H' => H' = H ∧ ∀ xs, SqT K H a xs → xs[i]? = some x, fun i H => ∃ xs, SqT K H a xs ∧ xs.length ≤ i⟩
def Itr (lo : Int) (n : Nat) : It := ⟨fun i _ => i < n, fun i H x H' => H' = H ∧ x = .int (lo + i), fun i _ => n ≤ i⟩
theorem turn_list {P : Program} {w : World} {K : PySem.W.Frag} {tg : Expr} (a it : Addr) : Turn P w K tg (Itl K a) [it] it (fun i h => h.IsListIter it a i) where
  mem := by simp
  obj := fun i h st b hb => by
    have e : b = it := by simpa using hb
    subst e
    obtain ⟨o, e, c, d⟩ := st
    exact ⟨o, e, fun v z => by rw [d] at z; cases z⟩
  keep := fun i h h' st k => st.at fun o e => k it (by simp) o e
  item := by
    intro X hP hw hK hc i pins s σ H E I hf st hg
    subst hP hw hK
    obtain ⟨xs, x, hq, hx⟩ := hg
    obtain ⟨its, rv, p, hz⟩ := I.list hq
    obtain ⟨u, hu, ru⟩ := rv.get hx
    obtain ⟨f0, f1, f2, f3, f4, f5⟩ := hf it (by simp)
    refine wpAny_pyNext_list_item st p.isList (x := u) (by simpa using hu) fun h' st' sb => ?_
    have I1 : Inv X pins σ H { s with heap := h' } := I.turned (t' := s.toks) (fun b o hb e => (sb.2 b hb).trans e) f0 f1 f3 f4 f5
    obtain ⟨o, e, c, d⟩ := id st'
    exact ⟨u, rfl, go_of (s := { s with heap := h' }) e c d (by decide) ⟨x, H, I1, ru, ⟨rfl, fun ys hy => by rw [I.list_inj hy hq]; exact hx⟩, st', fun b hb => (hf b hb).1⟩⟩
  done := by
    intro X hP hw hK hc i pins s σ H E I hf st hg
    subst hP hw hK
    obtain ⟨xs, hq, hx⟩ := hg
    obtain ⟨its, rv, p, hz⟩ := I.list hq
    obtain ⟨f0, f1, f2, f3, f4, f5⟩ := hf it (by simp)
    have hl := rv.length
    exact wpAny_pyNext_list_end (I.ok.hd hc) st p.isList (by simp; omega) fun h' eb => ⟨rfl, I.turned (t' := s.toks) (fun b o hb e => eb b o hb e) f0 f1 f3 f4 f5⟩
  self := fun _ _ _ _ _ st h => wpAny_pyIter_listiter st h
theorem turn_tuple {P : Program} {w : World} {K : PySem.W.Frag} {tg : Expr} (a it : Addr) : Turn P w K tg (Itt K a) [it] it (fun i h => h.IsTupleIter it a i) where
  mem := by simp
  obj := fun i h st b hb => by
    have e : b = it := by simpa using hb
    subst e
    obtain ⟨o, e, c, d⟩ := st
    exact ⟨o, e, fun v z => by rw [d] at z; cases z⟩
  keep := fun i h h' st k => st.at fun o e => k it (by simp) o e
  item := by
    intro X hP hw hK hc i pins s σ H E I hf st hg
    subst hP hw hK
    obtain ⟨xs, x, hq, hx⟩ := hg
    obtain ⟨its, rv, p, hz⟩ := I.tuple hq
    obtain ⟨u, hu, ru⟩ := rv.get hx
    obtain ⟨f0, f1, f2, f3, f4, f5⟩ := hf it (by simp)
    refine wpAny_pyNext_tuple_item st (show s.heap.IsTuple a its.toArray from p) (x := u) (by simpa using hu) fun h' st' sb => ?_
    have I1 : Inv X pins σ H { s with heap := h' } := I.turned (t' := s.toks) (fun b o hb e => (sb.2 b hb).trans e) f0 f1 f3 f4 f5
    obtain ⟨o, e, c, d⟩ := id st'
    exact ⟨u, rfl, go_of (s := { s with heap := h' }) e c d (by decide) ⟨x, H, I1, ru, ⟨rfl, fun ys hy => by rw [I.tuple_inj hy hq]; exact hx⟩, st', fun b hb => (hf b hb).1⟩⟩
  done := by
    intro X hP hw hK hc i pins s σ H E I hf st hg
    subst hP hw hK
    obtain ⟨xs, hq, hx⟩ := hg
    obtain ⟨its, rv, p, hz⟩ := I.tuple hq
    obtain ⟨f0, f1, f2, f3, f4, f5⟩ := hf it (by simp)
    have hl := rv.length
    exact wpAny_pyNext_tuple_end (I.ok.hd hc) st (show s.heap.IsTuple a its.toArray from p) (by simp; omega) fun h' eb => ⟨rfl, I.turned (t' := s.toks) (fun b o hb e => eb b o hb e) f0 f1 f3 f4 f5⟩
  self := fun _ _ _ _ _ st h => wpAny_pyIter_tupleiter st h
theorem turn_range {P : Program} {w : World} {K : PySem.W.Frag} {tg : Expr} (it : Addr) (lo : Int) (n : Nat) : Turn P w K tg (Itr lo n) [it] it (fun i h => IsRangeIter h it (lo + (i : Nat) * 1) ((n : Int) - (i : Nat)) 1) where
  mem := by simp
  obj := fun i h st b hb => by
    have e : b = it := by simpa using hb
    subst e
    exact ⟨_, st, fun v z => by
      have z' : Data.fields _ = Data.cell v := z
      cases z'⟩
  keep := fun i h h' st k => k it (by simp) _ st
  item := by
    intro X hP hw hK hc i pins s σ H E I hf st hg
    subst hP hw hK
    obtain ⟨f0, f1, f2, f3, f4, f5⟩ := hf it (by simp)
    have W := Walks.range (prog := X.prog) (w := X.w) (I.ok.hd hc) it lo 1 n
    refine W.item i s _ _ hg st fun v h' tk hv st' kk => ?_
    obtain ⟨t, rfl⟩ := hv
    have I1 : Inv X pins σ H { s with heap := h', toks := tk } := I.turned (fun b o hb e => kk b o (by simpa using hb) e) f0 f1 f3 f4 f5
    refine ⟨_, rfl, go_of (s := { s with heap := h', toks := tk }) (n := "range_iterator") st' rfl rfl (by decide) ⟨.int (lo + i), H, I1, ⟨t, ?_⟩, ⟨rfl, rfl⟩, st', fun b hb => (hf b hb).1⟩⟩
    rw [Int.mul_one]
  done := by
    intro X hP hw hK hc i pins s σ H E I hf st hg
    subst hP hw hK
    obtain ⟨f0, f1, f2, f3, f4, f5⟩ := hf it (by simp)
    exact wpAny_pyNext_range_end (I.ok.hd hc) st (by have : n ≤ i := hg; omega) fun h' eb => ⟨rfl, I.turned (t' := s.toks) (fun b o hb e => eb b o hb e) f0 f1 f3 f4 f5⟩
  self := fun _ _ _ _ _ st h => wpAny_pyIter_rangeiter st h
end L2
namespace L2
open PySem PySem.Spec PyProof.Rows
section
variable {X : Cx} {tg : Expr}
def iList (K : PySem.W.Frag) (tl : TE) : TI := fun σ H R => tl σ H fun x H1 => ∃ a, x = .ref a ∧ (∃ xs, SqL K H1 a xs) ∧ R (Itl K a) H1
def iTup (K : PySem.W.Frag) (tl : TE) : TI := fun σ H R => tl σ H fun x H1 => ∃ a, x = .ref a ∧ (∃ xs, SqT K H1 a xs) ∧ R (Itt K a) H1
theorem pi_list {l : Expr} {tl : TE} (hl : PE X l tl) : PI X tg l (iList X.K tl) := by
  intro pins s σ H R I h
  refine thn (hl pins s σ H _ I h) fun v s1 ⟨x, H1, I1, r1, q1⟩ => ?_
  obtain ⟨a, e, ⟨xs, hq⟩, q⟩ := q1
  subst e
  cases r1
  obtain ⟨its, rv, p, hz⟩ := I1.list hq
  refine wpAny_pyIter_list p.isList ?_
  refine ⟨s1.heap.objs.size, [s1.heap.objs.size], _, _, H1, rfl, I1.kept (t' := s1.toks) fun b o e => Heap.get?_push_of_some _ e, turn_list a _, ⟨_, Heap.get?_push_size _ rfl, rfl, rfl⟩, fun b hb => ?_, q⟩
  have e : b = s1.heap.objs.size := by simpa using hb
  subst e
  exact I1.fpOk (Nat.le_refl _) (I1.hok.fresh (Nat.le_refl _))
theorem pi_tup {l : Expr} {tl : TE} (hl : PE X l tl) : PI X tg l (iTup X.K tl) := by
  intro pins s σ H R I h
  refine thn (hl pins s σ H _ I h) fun v s1 ⟨x, H1, I1, r1, q1⟩ => ?_
  obtain ⟨a, e, ⟨xs, hq⟩, q⟩ := q1
  subst e
  cases r1
  obtain ⟨its, rv, p, hz⟩ := I1.tuple hq
  refine wpAny_pyIter_tuple (show s1.heap.IsTuple a its.toArray from p) ?_
  refine ⟨s1.heap.objs.size, [s1.heap.objs.size], _, _, H1, rfl, I1.kept (t' := s1.toks) fun b o e => Heap.get?_push_of_some _ e, turn_tuple a _, ⟨_, Heap.get?_push_size _ rfl, rfl, rfl⟩, fun b hb => ?_, q⟩
  have e : b = s1.heap.objs.size := by simpa using hb
  subst e
  exact I1.fpOk (Nat.le_refl _) (I1.hok.fresh (Nat.le_refl _))
theorem range_it {pins : List (Addr × Obj)} {σ : St} {H : Hp} {s : Shared} {R : It → Hp → Prop} {E : Value → Shared → Prop} {lo hi : Int} {t u v : Tok} {tk : Nat} (I : Inv X pins σ H s) (h1 : -(2 ^ 62) ≤ lo) (h2 : lo < 2 ^ 62) (h3 : -(2 ^ 62) ≤ hi) (h4 : hi < 2 ^ 62)
    (q : R (Itr lo (hi - lo).toNat) H) : wpAny (model X.prog X.w) X.A (pyIter (.ref s.heap.objs.size)) (PIE X pins σ tg R) E { s with heap := s.heap.push { cls := .type "range", data := .fields #[.int lo t, .int hi u, .int 1 v] }, toks := tk } := by
  refine wpAny_pyIter_range (IsRange.new ..) (small_one h1 h2 h3 h4) ?_
  have I1 : Inv X pins σ H { s with heap := s.heap.push { cls := .type "range", data := .fields #[.int lo t, .int hi u, .int 1 v] }, toks := tk } := I.kept fun b o e => Heap.get?_push_of_some _ e
  refine ⟨(s.heap.push { cls := .type "range", data := .fields #[.int lo t, .int hi u, .int 1 v] }).objs.size, [(s.heap.push { cls := .type "range", data := .fields #[.int lo t, .int hi u, .int 1 v] }).objs.size], _, _, H, rfl,
    I1.kept (t' := tk) fun b o e => Heap.get?_push_of_some _ e, turn_range _ lo (hi - lo).toNat, ?_, fun b hb => ?_, q⟩
  · have e1 : lo + ((0 : Nat) : Int) * 1 = lo := by simp
    have e2 : (((hi - lo).toNat : Nat) : Int) - ((0 : Nat) : Int) = Builtin.Range.rangeSize lo hi 1 := by rw [rangeSize_one]; split <;> omega
    show IsRangeIter _ _ (lo + ((0 : Nat) : Int) * 1) ((((hi - lo).toNat : Nat) : Int) - ((0 : Nat) : Int)) 1
    rw [e1, e2]
    exact Heap.get?_push_size _ rfl
  · have e : b = (s.heap.push { cls := .type "range", data := .fields #[.int lo t, .int hi u, .int 1 v] }).objs.size := by simpa using hb
    subst e
    exact I1.fpOk (Nat.le_refl _) (I1.hok.fresh (Nat.le_refl _))
def iRng1 (ta : TA) : TI := fun σ H R => ta σ H fun vs H1 => ∃ j : Int, vs = [.int j] ∧ -(2 ^ 62) ≤ j ∧ j < 2 ^ 62 ∧ R (Itr 0 j.toNat) H1
def iRng2 (ta : TA) : TI := fun σ H R => ta σ H fun vs H1 => ∃ i j : Int, vs = [.int i, .int j] ∧ (-(2 ^ 62) ≤ i ∧ i < 2 ^ 62 ∧ -(2 ^ 62) ≤ j ∧ j < 2 ^ 62) ∧ R (Itr i (j - i).toNat) H1
theorem pi_range1 {a : Expr} {ta : TA} {p pos : Pos} (hg : Gl X "range") (hm : X.mg "range" = none) (ha : PA X [a] ta) (hs : starEach [a] X.env = [(false, eval a X.env)] := by rfl) : PI X tg (.Call (.Name "range" p) [a] [] pos) (iRng1 ta) := by
  intro pins s σ H R I h
  refine Call_ (ld_blt I hg hm boot_range (PyProof.Rows.callWith_type1 (thn (ha pos pins s σ H _ I h) fun us s1 ⟨vs, H1, I1, r1, q1⟩ => ?_) hs rfl))
  obtain ⟨j, e, q1, q2, q⟩ := q1
  subst e
  cases r1 with
  | cons r rr =>
    cases rr
    obtain ⟨t, rfl⟩ := r
    exact call_range_1 (range_it I1 (by omega) (by omega) q1 q2 (by simpa using q))
theorem pi_range2 {a b : Expr} {ta : TA} {p pos : Pos} (hg : Gl X "range") (hm : X.mg "range" = none) (ha : PA X [a, b] ta) (hs : starEach [a, b] X.env = [(false, eval a X.env), (false, eval b X.env)] := by rfl) (hs2 : starEach [b] X.env = [(false, eval b X.env)] := by rfl) :
    PI X tg (.Call (.Name "range" p) [a, b] [] pos) (iRng2 ta) := by
  intro pins s σ H R I h
  refine Call_ (ld_blt I hg hm boot_range (PyProof.Rows.callWith_type1 (thn (ha pos pins s σ H _ I h) fun us s1 ⟨vs, H1, I1, r1, q1⟩ => ?_) (by rw [hs, hs2]) (by rw [hs2]; rfl)))
  obtain ⟨i, j, e, ⟨q1, q2, q3, q4⟩, q⟩ := q1
  subst e
  cases r1 with
  | cons r rr =>
    cases rr with
    | cons r' rr =>
      cases rr
      obtain ⟨t, rfl⟩ := r
      obtain ⟨t', rfl⟩ := r'
      exact call_range_2 (range_it I1 q1 q2 q3 q4 q)
def tFor (wi : TI) (g : TG) (tb : TS) : TS := fun D σ H => wi σ H fun J H1 => ∃ W : Nat → Nat → St → Hp → Prop, (∃ m, W 0 m σ H1) ∧ ∀ i m σ H, W i m σ H →
  (J.stop i H ∧ D.nx σ H) ∨ (J.go i H ∧ ∃ N : St → Hp → Prop, (∀ σ' H', N σ' H' → ∃ m', m' < m ∧ W (i + 1) m' σ' H') ∧ ∀ x H', J.yld i H x H' → g x σ H' fun σ2 H2 => tb { D with nx := N, ct := N, bk := D.nx } σ2 H2)
def pinsAt (fp : List Addr) (h : Heap) : List (Addr × Obj) := fp.filterMap fun b => (h.get? b).map fun o => (b, o)
theorem mem_pinsAt {fp : List Addr} {h : Heap} {b : Addr} {o : Obj} (hb : b ∈ fp) (e : h.get? b = some o) : (b, o) ∈ pinsAt fp h := List.mem_filterMap.mpr ⟨b, hb, by rw [e]; rfl⟩
theorem of_pinsAt {fp : List Addr} {h : Heap} {p : Addr × Obj} (hp : p ∈ pinsAt fp h) : p.1 ∈ fp ∧ h.get? p.1 = some p.2 := by
  obtain ⟨b, hb, e⟩ := List.mem_filterMap.mp hp
  cases q : h.get? b with
  | none => rw [q] at e; cases e
  | some o =>
    rw [q] at e
    have e' : (b, o) = p := Option.some.inj e
    subst e'
    exact ⟨hb, q⟩
theorem Inv.pinned {pins : List (Addr × Obj)} {σ : St} {H : Hp} {s : Shared} {fp : List Addr} (I : Inv X pins σ H s) (hf : ∀ b ∈ fp, FpOk X pins H b) (ho : ∀ b ∈ fp, ∃ o, s.heap.get? b = some o ∧ ∀ v, o.data ≠ .cell v) : Inv X (pins ++ pinsAt fp s.heap) σ H s :=
  I.pins_of fun p hp => (List.mem_append.mp hp).elim (fun z => I.pin p (List.mem_append_right _ z)) fun z => by
    obtain ⟨hb, e⟩ := of_pinsAt z
    obtain ⟨f0, f1, f2, _⟩ := hf p.1 hb
    obtain ⟨o, e', d⟩ := ho p.1 hb
    rw [e] at e'; cases e'
    exact ⟨e, f0, f1, f2, d⟩
theorem Inv.unpinned {pins pl : List (Addr × Obj)} {σ : St} {H : Hp} {s : Shared} (I : Inv X (pins ++ pl) σ H s) : Inv X pins σ H s := I.pins_of fun p hp => I.pin p (List.mem_append_right _ (List.mem_append_left _ hp))
theorem ps_for {iter : Expr} {body : List Stmt} {wi : TI} {g : TG} {tb : TS} {pos : Pos} (hp : PassesOwn (model X.prog X.w) X.A X.env X.xe) (hc : X.calm = true) (hi : PI X tg iter wi) (hg : PG X tg g) (hb : PSs X body tb)
    (hs : ∀ x, foldedSetIterable iter X.env x = pure x := by intro _; rfl) : PS X (.For tg iter body [] pos) (tFor wi g tb) := by
  intro pins s σ H D I h
  refine wpAny_For (thn (hi pins s σ H _ I h) fun v s1 h1 => thn h1 fun itv s2 h2 => ?_) hs
  obtain ⟨it, fp, tn, J, H2, e, I2, T, st2, f2, W, ⟨m0, w0⟩, turn⟩ := h2
  subst e
  have stat : ∀ {H' : Hp}, (∀ b ∈ fp, H' b = none) → ∀ b ∈ fp, FpOk X pins H' b := fun hn b hb => ⟨hn b hb, (f2 b hb).2⟩
  refine codeAny_forLoop_any (fun n s' => ∃ i σ' H', Inv X pins σ' H' s' ∧ tn i s'.heap ∧ (∀ b ∈ fp, H' b = none) ∧ W i n σ' H') ?_ m0 ⟨0, σ, H2, I2, st2, fun b hb => (f2 b hb).1, w0⟩
  rintro n s3 ⟨i, σ3, H3, I3, st3, fr3, w3⟩
  rcases turn i n σ3 H3 w3 with ⟨stop, qn⟩ | ⟨go, N, hN, step⟩
  · refine wpAny_passesOwn hp (thn (T.done X rfl rfl rfl hc i pins s3 σ3 H3 X.xe I3 (stat fr3) st3 stop) fun r s4 ⟨hr, I4⟩ => ?_)
    subst hr
    exact wpAny_execs_nil ⟨σ3, H3, I4, qn⟩
  · refine wpAny_passesOwn hp (thn (T.item X rfl rfl rfl hc i pins s3 σ3 H3 X.xe I3 (stat fr3) st3 go) fun r s4 ⟨u, hr, h4⟩ => ?_)
    subst hr
    refine wpAny_passesOwn hp (thn h4 fun _ s5 ⟨x, H5, I5, r5, y5, st5, fr5⟩ => ?_)
    have I5' := I5.pinned (stat fr5) (T.obj _ _ st5)
    refine wpAny_passesOwn hp (thn (hg _ s5 σ3 H5 x u _ I5' r5 (step x H5 y5)) fun _ s6 ⟨σ6, H6, I6, q6⟩ => ?_)
    refine wpAny_passesOwn hp (thn (hb _ s6 σ6 H6 _ I6 q6) fun f s7 q7 => ?_)
    have again : ∀ {σ7 : St} {H7 : Hp}, Inv X (pins ++ pinsAt fp s5.heap) σ7 H7 s7 → N σ7 H7 → ∃ m, m < n ∧ ∃ i σ' H', Inv X pins σ' H' s7 ∧ tn i s7.heap ∧ (∀ b ∈ fp, H' b = none) ∧ W i m σ' H' := fun {σ7 H7} I7 n7 => by
      obtain ⟨m', hm, w7⟩ := hN σ7 H7 n7
      refine ⟨m', hm, i + 1, σ7, H7, I7.unpinned, T.keep _ _ _ st5 fun b hb o e => (I7.pin (b, o) (List.mem_append_right _ (List.mem_append_right _ (mem_pinsAt hb e)))).1, fun b hb => ?_, w7⟩
      obtain ⟨o, e, d⟩ := T.obj _ _ st5 b hb
      exact (I7.pin (b, o) (List.mem_append_right _ (List.mem_append_right _ (mem_pinsAt hb e)))).2.1
    cases f with
    | next => obtain ⟨σ7, H7, I7, n7⟩ := q7; exact again I7 n7
    | cont => obtain ⟨σ7, H7, I7, n7⟩ := q7; exact again I7 n7
    | brk => obtain ⟨σ7, H7, I7, q7⟩ := q7; exact ⟨σ7, H7, I7.unpinned, q7⟩
    | ret v => obtain ⟨x7, σ7, H7, I7, r7, q7⟩ := q7; exact ⟨x7, σ7, H7, I7.unpinned, r7, q7⟩
end
theorem for_list {K : PySem.W.Frag} {a : Addr} {xs : List V} {g : TG} {tb : TS} {D : Ends} {σ : St} {H : Hp} (Pv : Nat → St → Hp → Prop) (h0 : Pv 0 σ H) (hl : ∀ i σ H, i ≤ xs.length → Pv i σ H → SqL K H a xs)
    (hs : ∀ i x σ H, xs[i]? = some x → Pv i σ H → g x σ H fun σ2 H2 => tb { D with nx := Pv (i + 1), ct := Pv (i + 1), bk := D.nx } σ2 H2) (hd : ∀ σ H, Pv xs.length σ H → D.nx σ H) :
    ∃ W : Nat → Nat → St → Hp → Prop, (∃ m, W 0 m σ H) ∧ ∀ i m σ H, W i m σ H →
      ((Itl K a).stop i H ∧ D.nx σ H) ∨ ((Itl K a).go i H ∧ ∃ N : St → Hp → Prop, (∀ σ' H', N σ' H' → ∃ m', m' < m ∧ W (i + 1) m' σ' H') ∧ ∀ x H', (Itl K a).yld i H x H' → g x σ H' fun σ2 H2 => tb { D with nx := N, ct := N, bk := D.nx } σ2 H2) := by
  refine ⟨fun i m σ H => m = xs.length - i ∧ i ≤ xs.length ∧ Pv i σ H, ⟨xs.length, by simp, Nat.zero_le _, h0⟩, ?_⟩
  rintro i m σ H ⟨rfl, hi, p⟩
  have q := hl i σ H hi p
  by_cases hlt : i < xs.length
  · refine .inr ⟨⟨xs, xs[i], q, by simp [hlt]⟩, Pv (i + 1), fun σ' H' p' => ⟨xs.length - (i + 1), by omega, rfl, hlt, p'⟩, fun x H' y => ?_⟩
    obtain ⟨e, y⟩ := y
    subst e
    exact hs i x σ _ (y xs q) p
  · have e : i = xs.length := by omega
    subst e
    exact .inl ⟨⟨xs, q, Nat.le_refl _⟩, hd σ H p⟩
theorem for_tup {K : PySem.W.Frag} {a : Addr} {xs : List V} {g : TG} {tb : TS} {D : Ends} {σ : St} {H : Hp} (Pv : Nat → St → Hp → Prop) (h0 : Pv 0 σ H) (hl : ∀ i σ H, i ≤ xs.length → Pv i σ H → SqT K H a xs)
    (hs : ∀ i x σ H, xs[i]? = some x → Pv i σ H → g x σ H fun σ2 H2 => tb { D with nx := Pv (i + 1), ct := Pv (i + 1), bk := D.nx } σ2 H2) (hd : ∀ σ H, Pv xs.length σ H → D.nx σ H) :
    ∃ W : Nat → Nat → St → Hp → Prop, (∃ m, W 0 m σ H) ∧ ∀ i m σ H, W i m σ H →
      ((Itt K a).stop i H ∧ D.nx σ H) ∨ ((Itt K a).go i H ∧ ∃ N : St → Hp → Prop, (∀ σ' H', N σ' H' → ∃ m', m' < m ∧ W (i + 1) m' σ' H') ∧ ∀ x H', (Itt K a).yld i H x H' → g x σ H' fun σ2 H2 => tb { D with nx := N, ct := N, bk := D.nx } σ2 H2) := by
  refine ⟨fun i m σ H => m = xs.length - i ∧ i ≤ xs.length ∧ Pv i σ H, ⟨xs.length, by simp, Nat.zero_le _, h0⟩, ?_⟩
  rintro i m σ H ⟨rfl, hi, p⟩
  have q := hl i σ H hi p
  by_cases hlt : i < xs.length
  · refine .inr ⟨⟨xs, xs[i], q, by simp [hlt]⟩, Pv (i + 1), fun σ' H' p' => ⟨xs.length - (i + 1), by omega, rfl, hlt, p'⟩, fun x H' y => ?_⟩
    obtain ⟨e, y⟩ := y
    subst e
    exact hs i x σ _ (y xs q) p
  · have e : i = xs.length := by omega
    subst e
    exact .inl ⟨⟨xs, q, Nat.le_refl _⟩, hd σ H p⟩
theorem for_range {lo : Int} {n : Nat} {g : TG} {tb : TS} {D : Ends} {σ : St} {H : Hp} (Pv : Nat → St → Hp → Prop) (h0 : Pv 0 σ H)
    (hs : ∀ i σ H, i < n → Pv i σ H → g (.int (lo + i)) σ H fun σ2 H2 => tb { D with nx := Pv (i + 1), ct := Pv (i + 1), bk := D.nx } σ2 H2) (hd : ∀ σ H, Pv n σ H → D.nx σ H) :
    ∃ W : Nat → Nat → St → Hp → Prop, (∃ m, W 0 m σ H) ∧ ∀ i m σ H, W i m σ H →
      ((Itr lo n).stop i H ∧ D.nx σ H) ∨ ((Itr lo n).go i H ∧ ∃ N : St → Hp → Prop, (∀ σ' H', N σ' H' → ∃ m', m' < m ∧ W (i + 1) m' σ' H') ∧ ∀ x H', (Itr lo n).yld i H x H' → g x σ H' fun σ2 H2 => tb { D with nx := N, ct := N, bk := D.nx } σ2 H2) := by
  refine ⟨fun i m σ H => m = n - i ∧ i ≤ n ∧ Pv i σ H, ⟨n, by simp, Nat.zero_le _, h0⟩, ?_⟩
  rintro i m σ H ⟨rfl, hi, p⟩
  by_cases hlt : i < n
  · refine .inr ⟨hlt, Pv (i + 1), fun σ' H' p' => ⟨n - (i + 1), by omega, rfl, hlt, p'⟩, fun x H' y => ?_⟩
    obtain ⟨e, y⟩ := y
    subst e y
    exact hs i σ _ hlt p
  · have e : i = n := by omega
    subst e
    exact .inl ⟨Nat.le_refl _, hd σ H p⟩
theorem while_by {c : TT} {tb : TS} {D : Ends} {σ : St} {H : Hp} (Pv : St → Hp → Prop) (μ : St → Hp → Nat) (h0 : Pv σ H)
    (hs : ∀ σ H, Pv σ H → c σ H fun b H1 => if b = true then tb { D with nx := fun σ' H' => Pv σ' H' ∧ μ σ' H' < μ σ H, ct := fun σ' H' => Pv σ' H' ∧ μ σ' H' < μ σ H, bk := D.nx } σ H1 else D.nx σ H1)
    (mono : ∀ σ H Q Q', (∀ b H1, Q b H1 → Q' b H1) → c σ H Q → c σ H Q') : tWhile c tb D σ H := by
  refine ⟨fun m σ H => m = μ σ H ∧ Pv σ H, ⟨_, rfl, h0⟩, ?_⟩
  rintro m σ H ⟨rfl, p⟩
  refine mono σ H _ _ (fun b H1 q => ?_) (hs σ H p)
  cases b with
  | true => exact ⟨_, fun σ' H' ⟨p', l⟩ => ⟨_, l, rfl, p'⟩, q⟩
  | false => exact q
end L2
namespace L2
open PySem PySem.Spec PyProof.Rows
abbrev R2 := V → V → Hp → VK → Prop
def OpR (X : Cx) (f : Value → Value → Sem Value) (r : R2) : Prop :=
  ∀ (pins : List (Addr × Obj)) (s : Shared) (σ : St) (H : Hp) (x y : V) (v u : Value) (Q : VK), Inv X pins σ H s → RelV x v → RelV y u → r x y H Q →
    wpAny (model X.prog X.w) X.A (f v u) (EP X pins σ Q) X.xe s
def UnR (X : Cx) (f : Value → Sem Value) (r : V → Hp → VK → Prop) : Prop :=
  ∀ (pins : List (Addr × Obj)) (s : Shared) (σ : St) (H : Hp) (x : V) (v : Value) (Q : VK), Inv X pins σ H s → RelV x v → r x H Q →
    wpAny (model X.prog X.w) X.A (f v) (EP X pins σ Q) X.xe s
def CallR (X : Cx) (f : Value) (r : List V → Hp → VK → Prop) : Prop :=
  ∀ (pins : List (Addr × Obj)) (s : Shared) (σ : St) (H : Hp) (xs : List V) (us : List Value) (Q : VK), Inv X pins σ H s → Vals xs us → r xs H Q →
    wpAny (model X.prog X.w) X.A (call f us) (EP X pins σ Q) X.xe s
def tOp (r : R2) (ta tb : TE) : TE := fun σ H Q => ta σ H fun x H1 => tb σ H1 fun y H2 => r x y H2 Q
def tUn (r : V → Hp → VK → Prop) (ta : TE) : TE := fun σ H Q => ta σ H fun x H1 => r x H1 Q
def rI (C : Int → Int → Prop) (g : Int → Int → V) : R2 := fun x y H Q => ∃ i j, x = .int i ∧ y = .int j ∧ C i j ∧ Q (g i j) H
def rI0 (g : Int → Int → V) : R2 := fun x y H Q => ∃ i j, x = .int i ∧ y = .int j ∧ Q (g i j) H
def rU (g : Int → V) : V → Hp → VK → Prop := fun x H Q => ∃ i, x = .int i ∧ Q (g i) H
section
variable {X : Cx} {a b c : Expr} {ta tb tc : TE} {pos : Pos}
theorem binT (ha : PE X a ta) (hb : PE X b tb) {pins : List (Addr × Obj)} {s : Shared} {σ : St} {H : Hp} {R : V → V → Hp → Prop} (I : Inv X pins σ H s)
    (h : ta σ H fun x H1 => tb σ H1 fun y H2 => R x y H2) {Q : Value → Shared → Prop} {f : Value → Value → Sem Value}
    (hf : ∀ v u s2 x y H2, Inv X pins σ H2 s2 → RelV x v → RelV y u → R x y H2 → wpAny (model X.prog X.w) X.A (f v u) Q X.xe s2) :
    wpAny (model X.prog X.w) X.A (eval a X.env) (fun v s₁ => wpAny (model X.prog X.w) X.A (eval b X.env) (fun u s₂ => wpAny (model X.prog X.w) X.A (f v u) Q X.xe s₂) X.xe s₁) X.xe s := by
  refine thn (ha pins s σ H _ I h) fun v s1 ⟨x, H1, I1, r1, q1⟩ => ?_
  refine thn (hb pins s1 σ H1 _ I1 q1) fun u s2 ⟨y, H2, I2, r2, q2⟩ => ?_
  exact hf v u s2 x y H2 I2 r1 r2 q2
theorem pe_op {op : Operator} {r : R2} (ho : OpR X (binaryOp op) r) (ha : PE X a ta) (hb : PE X b tb) : PE X (.BinOp a op b pos) (tOp r ta tb) := by
  intro pins s σ H Q I h
  exact wpAny_BinOp (binT ha hb I h fun v u s2 x y H2 I2 rx ry q => ho pins s2 σ H2 x y v u Q I2 rx ry q)
theorem pe_un {op : UnaryOp} {r : V → Hp → VK → Prop} (ho : UnR X (unaryOp op) r) (ha : PE X a ta) : PE X (.UnaryOp op a pos) (tUn r ta) := by
  intro pins s σ H Q I h
  exact UnaryOp_ (thn (ha pins s σ H _ I h) fun v s1 ⟨x, H1, I1, r1, q1⟩ => ho pins s1 σ H1 x v Q I1 r1 q1)
theorem opI {f : Value → Value → Sem Value} {C : Int → Int → Prop} {g : Int → Int → Int}
    (rule : ∀ (i j : Int) (t u : Tok) (s : Shared) (Q : Value → Shared → Prop) (E : Value → Shared → Prop), C i j → Q (.int (g i j) s.toks) { s with toks := s.toks + 1 } → wpAny (model X.prog X.w) X.A (f (.int i t) (.int j u)) Q E s) :
    OpR X f (rI C fun i j => .int (g i j)) := by
  intro pins s σ H x y v u Q I rx ry h
  obtain ⟨i, j, rfl, rfl, hc, q⟩ := h
  obtain ⟨t, rfl⟩ := rx
  obtain ⟨t', rfl⟩ := ry
  exact rule i j t t' s _ _ hc ⟨.int (g i j), H, I.tok _, ⟨_, rfl⟩, q⟩
theorem opI0 {f : Value → Value → Sem Value} {g : Int → Int → Int}
    (rule : ∀ (i j : Int) (t u : Tok) (s : Shared) (Q : Value → Shared → Prop) (E : Value → Shared → Prop), Q (.int (g i j) s.toks) { s with toks := s.toks + 1 } → wpAny (model X.prog X.w) X.A (f (.int i t) (.int j u)) Q E s) :
    OpR X f (rI0 fun i j => .int (g i j)) := by
  intro pins s σ H x y v u Q I rx ry h
  obtain ⟨i, j, rfl, rfl, q⟩ := h
  obtain ⟨t, rfl⟩ := rx
  obtain ⟨t', rfl⟩ := ry
  exact rule i j t t' s _ _ ⟨.int (g i j), H, I.tok _, ⟨_, rfl⟩, q⟩
theorem opB0 {f : Value → Value → Sem Value} {g : Int → Int → Bool}
    (rule : ∀ (i j : Int) (t u : Tok) (s : Shared) (Q : Value → Shared → Prop) (E : Value → Shared → Prop), Q (.bool (g i j)) s → wpAny (model X.prog X.w) X.A (f (.int i t) (.int j u)) Q E s) :
    OpR X f (rI0 fun i j => .bl (g i j)) := by
  intro pins s σ H x y v u Q I rx ry h
  obtain ⟨i, j, rfl, rfl, q⟩ := h
  obtain ⟨t, rfl⟩ := rx
  obtain ⟨t', rfl⟩ := ry
  exact rule i j t t' s _ _ ⟨.bl (g i j), H, I, rfl, q⟩
def CDiv (i j : Int) : Prop := 0 < j ∧ j < 1073741824
def CPow (i j : Int) : Prop := 0 ≤ j ∧ j ≤ 1000000 ∧ i.natAbs < 2 ^ 64
def CMul (i j : Int) : Prop := (-(2 ^ 64) < i ∧ i < 2 ^ 64) ∨ (-(2 ^ 64) < j ∧ j < 2 ^ 64)
theorem CMul.ok {i j : Int} (h : CMul i j) : IntMulOk i j := by
  rcases h with ⟨h1, h2⟩ | ⟨h1, h2⟩
  · exact .of_left (intBits_le_64 h1 h2)
  · exact .of_right (intBits_le_64 h1 h2)
theorem op_add : OpR X (binaryOp .Add) (rI0 fun i j => .int (i + j)) := opI0 fun _ _ _ _ _ _ _ q => add_int q
theorem op_sub : OpR X (binaryOp .Sub) (rI0 fun i j => .int (i - j)) := opI0 fun _ _ _ _ _ _ _ q => sub_int q
theorem op_mul : OpR X (binaryOp .Mult) (rI CMul fun i j => .int (i * j)) := opI fun _ _ _ _ _ _ _ hc q => mul_int q hc.ok
theorem op_fdiv : OpR X (binaryOp .FloorDiv) (rI CDiv fun i j => .int (i / j)) := opI fun i j _ _ _ _ _ hc q => by
  have h1 : (0 : Int) < j := hc.1
  have h2 : j < 1073741824 := hc.2
  exact floordiv_int (by omega) (by rw [Int.fdiv_eq_ediv_of_nonneg i (by omega)]; exact q) (.inl (PyProof.noPylong_small (by omega)))
theorem op_mod : OpR X (binaryOp .Mod) (rI (fun _ j => 0 < j) fun i j => .int (i % j)) := opI fun i j _ _ _ _ _ hc q => by
  have h1 : (0 : Int) < j := hc
  exact mod_int' (by omega) (by rw [Int.fmod_eq_emod_of_nonneg i (by omega)]; exact q)
theorem op_pow : OpR X (binaryOp .Pow) (rI CPow fun i j => .int (i ^ j.toNat)) := opI fun _ _ _ _ _ _ _ hc q => pow_int_small hc.1 hc.2.1 hc.2.2 q
theorem unI {f : Value → Sem Value} {g : Int → Int}
    (rule : ∀ (i : Int) (t : Tok) (s : Shared) (Q : Value → Shared → Prop) (E : Value → Shared → Prop), Q (.int (g i) s.toks) { s with toks := s.toks + 1 } → wpAny (model X.prog X.w) X.A (f (.int i t)) Q E s) :
    UnR X f (rU fun i => .int (g i)) := by
  intro pins s σ H x v Q I rx h
  obtain ⟨i, rfl, q⟩ := h
  obtain ⟨t, rfl⟩ := rx
  exact rule i t s _ _ ⟨.int (g i), H, I.tok _, ⟨_, rfl⟩, q⟩
theorem un_neg : UnR X (unaryOp .USub) (rU fun i => .int (-i)) := unI fun _ _ _ _ _ q => neg_int q
end
def scal : V → V → Bool
  | .non, .non => true | .non, .int _ => true | .int _, .non => true | .non, .bl _ => true | .bl _, .non => true | .non, .str _ => true | .str _, .non => true
  | .int _, .int _ => true | .bl _, .bl _ => true | .str _, .str _ => true | .byt _, .byt _ => true
  | .int _, .str _ => true | .str _, .int _ => true | .bl _, .str _ => true | .str _, .bl _ => true
  | _, _ => false
def rEq : R2 := fun x y H Q => scal x y = true ∧ Q (.bl (decide (x = y))) H
def rNe : R2 := fun x y H Q => scal x y = true ∧ Q (.bl (!decide (x = y))) H
theorem dec_int {i j : Int} : decide (V.int i = V.int j) = (i == j) := by
  rw [Bool.eq_iff_iff]
  simp
theorem dec_bl {i j : Bool} : decide (V.bl i = V.bl j) = (i == j) := by
  rw [Bool.eq_iff_iff]
  simp
theorem dec_str {i j : Str} : decide (V.str i = V.str j) = (i == j) := by
  rw [Bool.eq_iff_iff]
  simp
theorem dec_byt {i j : Array UInt8} : decide (V.byt i = V.byt j) = (i.toList == j.toList) := by
  rw [Bool.eq_iff_iff]
  cases i
  cases j
  simp
section
variable {X : Cx} {a b c : Expr} {ta tb tc : TE} {pos : Pos}
theorem fin_bl {pins : List (Addr × Obj)} {σ : St} {H : Hp} {s : Shared} {Q : VK} {k k' : Bool} (I : Inv X pins σ H s) (q : Q (.bl k) H) (e : k = k') : EP X pins σ Q (.bool k') s := by
  subst e
  exact ⟨.bl k, H, I, rfl, q⟩
theorem op_eq : OpR X (compareOp .Eq) rEq := by
  intro pins s σ H x y v u Q I rx ry h
  obtain ⟨hs, q⟩ := h
  cases x with
  | non =>
    cases rx
    cases y with
    | non => cases ry; exact PySem.EqNone.eq_none_none (fin_bl I q (by simp))
    | bl j => cases ry; exact PySem.EqNone.eq_none_bool (fin_bl I q (by simp))
    | int j => obtain ⟨t', rfl⟩ := ry; exact PySem.EqNone.eq_none_int (fin_bl I q (by simp))
    | str j => obtain ⟨t', rfl⟩ := ry; exact PySem.EqNone.eq_none_str (fin_bl I q (by simp))
    | _ => exact absurd (show false = true from hs) Bool.false_ne_true
  | bl i =>
    cases rx
    cases y with
    | non => cases ry; exact PySem.EqNone.eq_bool_none (fin_bl I q (by simp))
    | bl j => cases ry; exact eq_bool (fin_bl I q dec_bl)
    | str j => obtain ⟨t', rfl⟩ := ry; exact PySem.EqMixed.eq_bool_str (fin_bl I q (by simp))
    | _ => exact absurd (show false = true from hs) Bool.false_ne_true
  | int i =>
    obtain ⟨t, rfl⟩ := rx
    cases y with
    | non => cases ry; exact PySem.EqNone.eq_int_none (fin_bl I q (by simp))
    | int j => obtain ⟨t', rfl⟩ := ry; exact eq_int (fin_bl I q dec_int)
    | str j => obtain ⟨t', rfl⟩ := ry; exact PySem.EqMixed.eq_int_str (fin_bl I q (by simp))
    | _ => exact absurd (show false = true from hs) Bool.false_ne_true
  | str i =>
    obtain ⟨t, rfl⟩ := rx
    cases y with
    | non => cases ry; exact PySem.EqNone.eq_str_none (fin_bl I q (by simp))
    | bl j => cases ry; exact PySem.EqMixed.eq_str_bool (fin_bl I q (by simp))
    | int j => obtain ⟨t', rfl⟩ := ry; exact PySem.EqMixed.eq_str_int (fin_bl I q (by simp))
    | str j => obtain ⟨t', rfl⟩ := ry; exact eq_str (fin_bl I q dec_str)
    | _ => exact absurd (show false = true from hs) Bool.false_ne_true
  | byt i =>
    obtain ⟨t, rfl⟩ := rx
    cases y with
    | byt j => obtain ⟨t', rfl⟩ := ry; exact PySem.W.eq_bytes (fin_bl I q dec_byt)
    | _ => exact absurd (show false = true from hs) Bool.false_ne_true
  | _ => cases y <;> exact absurd (show false = true from hs) Bool.false_ne_true
theorem op_ne : OpR X (compareOp .NotEq) rNe := by
  intro pins s σ H x y v u Q I rx ry h
  obtain ⟨hs, q⟩ := h
  cases x with
  | non =>
    cases rx
    cases y with
    | non => cases ry; exact PySem.EqNone.ne_none_none (fin_bl I q (by simp))
    | bl j => cases ry; exact PySem.EqNone.ne_none_bool (fin_bl I q (by simp))
    | int j => obtain ⟨t', rfl⟩ := ry; exact PySem.EqNone.ne_none_int (fin_bl I q (by simp))
    | str j => obtain ⟨t', rfl⟩ := ry; exact PySem.EqNone.ne_none_str (fin_bl I q (by simp))
    | _ => exact absurd (show false = true from hs) Bool.false_ne_true
  | bl i =>
    cases rx
    cases y with
    | non => cases ry; exact PySem.EqNone.ne_bool_none (fin_bl I q (by simp))
    | bl j => cases ry; exact ne_bool (fin_bl I q (congrArg not dec_bl))
    | str j => obtain ⟨t', rfl⟩ := ry; exact PySem.EqMixed.ne_bool_str (fin_bl I q (by simp))
    | _ => exact absurd (show false = true from hs) Bool.false_ne_true
  | int i =>
    obtain ⟨t, rfl⟩ := rx
    cases y with
    | non => cases ry; exact PySem.EqNone.ne_int_none (fin_bl I q (by simp))
    | int j => obtain ⟨t', rfl⟩ := ry; exact ne_int (fin_bl I q (congrArg not dec_int))
    | str j => obtain ⟨t', rfl⟩ := ry; exact PySem.EqMixed.ne_int_str (fin_bl I q (by simp))
    | _ => exact absurd (show false = true from hs) Bool.false_ne_true
  | str i =>
    obtain ⟨t, rfl⟩ := rx
    cases y with
    | non => cases ry; exact PySem.EqNone.ne_str_none (fin_bl I q (by simp))
    | bl j => cases ry; exact PySem.EqMixed.ne_str_bool (fin_bl I q (by simp))
    | int j => obtain ⟨t', rfl⟩ := ry; exact PySem.EqMixed.ne_str_int (fin_bl I q (by simp))
    | str j => obtain ⟨t', rfl⟩ := ry; exact ne_str (fin_bl I q (congrArg not dec_str))
    | _ => exact absurd (show false = true from hs) Bool.false_ne_true
  | byt i =>
    obtain ⟨t, rfl⟩ := rx
    cases y with
    | byt j => obtain ⟨t', rfl⟩ := ry; exact PySem.W.ne_bytes (fin_bl I q (congrArg not dec_byt))
    | _ => exact absurd (show false = true from hs) Bool.false_ne_true
  | _ => cases y <;> exact absurd (show false = true from hs) Bool.false_ne_true
theorem op_lt : OpR X (compareOp .Lt) (rI0 fun i j => .bl (decide (i < j))) := opB0 fun _ _ _ _ _ _ _ q => lt_int q
theorem op_le : OpR X (compareOp .LtE) (rI0 fun i j => .bl (decide (i ≤ j))) := opB0 fun _ _ _ _ _ _ _ q => le_int q
theorem op_gt : OpR X (compareOp .Gt) (rI0 fun i j => .bl (decide (j < i))) := opB0 fun _ _ _ _ _ _ _ q => gt_int q
theorem op_in_str : OpR X (compareOp .In) (fun x y H Q => ∃ i j, x = .str i ∧ y = .str j ∧ Q (.bl (!(Builtin.Str.occurrences j i 0 j.length 1).isEmpty)) H) := by
  intro pins s σ H x y v u Q I rx ry h
  obtain ⟨i, j, rfl, rfl, q⟩ := h
  obtain ⟨t, rfl⟩ := rx
  obtain ⟨t', rfl⟩ := ry
  exact in_str (fin_bl I q rfl)
theorem op_isN : OpR X (compareOp .Is) (fun x y H Q => y = .non ∧ Q (.bl (decide (x = .non))) H) := by
  intro pins s σ H x y v u Q I rx ry h
  obtain ⟨rfl, q⟩ := h
  cases ry
  refine is_none_gen (fin_bl I q ?_)
  cases x <;> first
    | (cases rx; rfl)
    | (obtain ⟨t, rfl⟩ := rx; rfl)
theorem OpR.or {f : Value → Value → Sem Value} {r r' : R2} (h : OpR X f r) (h' : OpR X f r') : OpR X f (fun x y H Q => r x y H Q ∨ r' x y H Q) := by
  intro pins s σ H x y v u Q I rx ry q
  rcases q with q | q
  · exact h pins s σ H x y v u Q I rx ry q
  · exact h' pins s σ H x y v u Q I rx ry q
theorem nomark (b : Expr) {op : CmpOp} (h : op ≠ .In := by decide) (h2 : op ≠ .NotIn := by decide) : behindInMarks op b = false := by
  have e1 : (op == CmpOp.In) = false := by cases op <;> first | rfl | exact absurd rfl h
  have e2 : (op == CmpOp.NotIn) = false := by cases op <;> first | rfl | exact absurd rfl h2
  cases b <;> simp [behindInMarks, e1, e2]
theorem pe_cmpR {op : CmpOp} {r : R2} (ho : OpR X (compareOp op) r) (ha : PE X a ta) (hb : PE X b tb) (hm : behindInMarks op b = false) : PE X (.Compare a [op] [b] pos) (tOp r ta tb) := by
  intro pins s σ H Q I h
  exact wpAny_Compare1 (binT ha hb I h fun v u s2 x y H2 I2 rx ry q => ho pins s2 σ H2 x y v u Q I2 rx ry q) hm
def tTest (t : TE) : TT := fun σ H Q => t σ H fun x H' => ∃ k, x = .bl k ∧ Q k H'
theorem pt_cmpR {op : CmpOp} {r : R2} (ho : OpR X (compareOp op) r) (ha : PE X a ta) (hb : PE X b tb) (hm : behindInMarks op b = false) : PT X (.Compare a [op] [b] pos) (tTest (tOp r ta tb)) := by
  intro pins s σ H Q I h
  refine wpAny_isTrue_Compare1 (thn (ha pins s σ H _ I h) fun v s1 ⟨x, H1, I1, r1, q1⟩ => thn (hb pins s1 σ H1 _ I1 q1) fun u s2 ⟨y, H2, I2, r2, q2⟩ =>
    thn (ho pins s2 σ H2 x y v u _ I2 r1 r2 q2) fun c s3 ⟨z, H3, I3, r3, k, e, q3⟩ => ?_) hm
  subst e
  cases r3
  exact wpAny_truthy_bool ⟨H3, I3, q3⟩
def tChain (r r' : R2) (ta tb tc : TE) : TE := fun σ H Q => ta σ H fun x H1 => tb σ H1 fun y H2 => r x y H2 fun z H3 => ∃ k, z = .bl k ∧
  (if k = true then tc σ H3 fun w' H4 => r' y w' H4 Q else Q (.bl false) H3)
theorem pt_chain {op op' : CmpOp} {r r' : R2} (ho : OpR X (compareOp op) r) (ho' : OpR X (compareOp op') r') (ha : PE X a ta) (hb : PE X b tb) (hc : PE X c tc)
    (hm : lastMarks [op, op'] [b, c] = false := by with_unfolding_all rfl) : PT X (.Compare a [op, op'] [b, c] pos) (tTest (tChain r r' ta tb tc)) := by
  intro pins s σ H Q I h
  refine isTrue_chain (thn (ha pins s σ H _ I h) fun v s1 ⟨x, H1, I1, r1, q1⟩ => test_link (thn (hb pins s1 σ H1 _ I1 q1) fun u s2 ⟨y, H2, I2, r2, q2⟩ =>
    thn (ho pins s2 σ H2 x y v u _ I2 r1 r2 q2) fun d s3 ⟨z, H3, I3, r3, k, e, q3⟩ => ?_)) hm
  subst e
  cases r3
  refine wpAny_truthy_bool ?_
  cases k with
  | false =>
    obtain ⟨k', e', q'⟩ := q3
    cases e'
    exact ite_ff ⟨H3, I3, q'⟩
  | true =>
    refine ite_tt (test_last (thn (hc pins s3 σ H3 _ I3 q3) fun w' s4 ⟨z', H4, I4, r4, q4⟩ => thn (ho' pins s4 σ H4 y z' u w' _ I4 r2 r4 q4) fun d' s5 ⟨z2, H5, I5, r5, k2, e2, q5⟩ => ?_))
    subst e2
    cases r5
    exact wpAny_truthy_bool ⟨H5, I5, q5⟩
theorem line63 : (sizeLine : Nat) < 2 ^ 63 := by rw [sizeLine_eq]; decide
theorem op_add_str : OpR X (binaryOp .Add) (fun x y H Q => ∃ i j, x = .str i ∧ y = .str j ∧ i.length + j.length ≤ sizeLine ∧ Q (.str (i ++ j)) H) := by
  intro pins s σ H x y v u Q I rx ry h
  obtain ⟨i, j, rfl, rfl, hz, q⟩ := h
  obtain ⟨t, rfl⟩ := rx
  obtain ⟨t', rfl⟩ := ry
  exact add_str (fun t' tk => ⟨.str (i ++ j), H, I.tok _, ⟨_, rfl⟩, q⟩) hz
theorem vals1 {x : V} {us : List Value} (r : Vals [x] us) : ∃ u, us = [u] ∧ RelV x u := by
  cases r with
  | cons r1 r2 => cases r2; exact ⟨_, rfl, r1⟩
theorem vals2 {x y : V} {us : List Value} (r : Vals [x, y] us) : ∃ u w', us = [u, w'] ∧ RelV x u ∧ RelV y w' := by
  cases r with
  | cons r1 r2 =>
    cases r2 with
    | cons r3 r4 => cases r4; exact ⟨_, _, rfl, r1, r3⟩
theorem call_max2 (hc : X.calm = true) : CallR X (.builtin "max") (fun xs H Q => ∃ i j, xs = [.int i, .int j] ∧ Q (.int (if j > i then j else i)) H) := by
  intro pins s σ H xs us Q I r h
  obtain ⟨i, j, rfl, q⟩ := h
  obtain ⟨u, w', rfl, ⟨t, rfl⟩, ⟨t', rfl⟩⟩ := vals2 r
  refine max_two_ints (I.ok.hd hc) fun h' tk k => ⟨_, H, I.kept k, ?_, q⟩
  by_cases hj : j > i
  · rw [if_pos hj, if_pos hj]; exact ⟨_, rfl⟩
  · rw [if_neg hj, if_neg hj]; exact ⟨_, rfl⟩
theorem call_min2 (hc : X.calm = true) : CallR X (.builtin "min") (fun xs H Q => ∃ i j, xs = [.int i, .int j] ∧ Q (.int (if j < i then j else i)) H) := by
  intro pins s σ H xs us Q I r h
  obtain ⟨i, j, rfl, q⟩ := h
  obtain ⟨u, w', rfl, ⟨t, rfl⟩, ⟨t', rfl⟩⟩ := vals2 r
  refine min_two_ints (I.ok.hd hc) fun h' tk k => ⟨_, H, I.kept k, ?_, q⟩
  by_cases hj : j < i
  · rw [if_pos hj, if_pos hj]; exact ⟨_, rfl⟩
  · rw [if_neg hj, if_neg hj]; exact ⟨_, rfl⟩
theorem call_int1 : CallR X (.type "int") (fun xs H Q => (∃ i, xs = [.int i] ∧ Q (.int i) H) ∨ ∃ k, xs = [.bl k] ∧ Q (.int (if k then 1 else 0)) H) := by
  intro pins s σ H xs us Q I r h
  rcases h with ⟨i, rfl, q⟩ | ⟨k, rfl, q⟩
  · obtain ⟨u, rfl, t, rfl⟩ := vals1 r
    exact call_int_int ⟨.int i, H, I, ⟨_, rfl⟩, q⟩
  · obtain ⟨u, rfl, r1⟩ := vals1 r
    cases r1
    exact call_int_bool ⟨.int (if k then 1 else 0), H, I.tok _, ⟨_, rfl⟩, q⟩
end
end L2
namespace L2
open PySem PySem.Spec PyProof.Rows
structure ObjM (h : Heap) (x dx C : Addr) (mA : Str → Option Value) : Prop where
  obj : h.get? x = some (PySem.W.instObj C dx)
  ns : h.Ns1 dx mA
  ne : dx ≠ x
theorem lookIn_ns {h : Heap} {dx : Addr} {mA : Str → Option Value} (n : h.Ns1 dx mA) : ∃ od, h.get? dx = some od ∧ ∀ name, PySem.W.lookIn name od = some (mA name) := by
  obtain ⟨o, es, ep, ho, hd, hk, _, hm⟩ := n
  refine ⟨o, ho, fun name => ?_⟩
  have e := hm name
  unfold nsFind findBy at e
  rw [← Array.find?_toList] at e
  unfold PySem.W.lookIn
  rw [hd]
  dsimp only
  split
  · rename_i y q
    rw [q] at e
    exact congrArg some e
  · rename_i q
    rw [q] at e
    have a : es.toList.any (·.refKey) = false := by
      rw [List.any_eq_false]
      intro y hy
      obtain ⟨z, t, hkey⟩ := hk y (Array.mem_toList_iff.mp hy)
      simp [DictEntry.refKey, hkey]
    have a' : ¬ es.toList.any (·.refKey) = true := by rw [a]; exact Bool.false_ne_true
    rw [if_neg a']
    exact congrArg some e
theorem ObjM.look {h : Heap} {x dx C : Addr} {mA : Str → Option Value} (I : ObjM h x dx C mA) : ∃ od, PySem.W.InstAt h x (PySem.W.instObj C dx) C (some od) ∧ ∀ name, PySem.W.lookIn name od = some (mA name) :=
  let ⟨od, ho, hl⟩ := lookIn_ns I.ns
  ⟨od, ⟨I.obj, rfl, rfl, ho⟩, hl⟩
section
variable {prog : Program} {w : World} {A : Around} {E : Value → Shared → Prop} {s : Shared} {K : PySem.W.Frag} {x dx C f : Addr} {mA : Str → Option Value} {name : Str} {v : Value}
end
section
variable {P : Program} {w : World} {H H' : Hp} {h h' : Heap} {a C dx : Addr} {fs fs' : List (Str × V)}
theorem ins_get (hok : HOk P w H h) (e : H a = some (.ins C dx fs)) : ∃ mA, ObjM h a dx C mA ∧ (∀ f, RelO (fs.lookup f) (mA f)) ∧ PySem.Within mA (fs.map (·.1)) ∧ fs.length ≤ 1000 ∧ H dx = some (.own a) := by
  obtain ⟨d, z, ne, ob, mA, n, r, q⟩ := (show ObjOk P w H h a (.ins C dx fs) from hok a _ e)
  exact ⟨mA, ⟨ob, n, ne⟩, r, q, z, d⟩
end
structure Cls (K : PySem.W.Frag) (C : Addr) : Prop where
  pg : PySem.W.plainGet K C Str.empty = true
  hd : PySem.W.hasDictIn K C = true
  po : PySem.W.plainOver K C = true
  sa : PySem.W.findIn K (.ref C) "__setattr__" = some (some (.builtin "object.__setattr__"))
theorem Cls.get {K : PySem.W.Frag} {C : Addr} (c : Cls K C) (f : Str) : PySem.W.plainGet K C f = true := c.pg
structure Con (K : PySem.W.Frag) (C : Addr) (f : Str) (v : V) (u : Value) : Prop where
  at_ : PySem.W.findIn K (.ref C) f = some (some u)
  rel : RelV v u
  get : PySem.W.specialIn K u "__get__" = some none
  cp : PySem.W.copiedNames.contains f = false
structure Meth (K : PySem.W.Frag) (C : Addr) (m : Str) (f : Addr) : Prop where
  at_ : PySem.W.findIn K (.ref C) m = some (some (.ref f))
  fn : PySem.W.isFn K (.ref f) = true
  kp : PySem.W.keepIn K (.ref f) = true
section
variable {X : Cx} {pins : List (Addr × Obj)} {σ : St} {H : Hp} {s : Shared} {a C dx : Addr} {fs : List (Str × V)} {f : Str} {v : V} {A : Around} {E : Value → Shared → Prop}
end
section
variable {X : Cx} {o e value : Expr} {f : Str} {pos pos' tpos : Pos} {ta tv : TE}
end
section
variable {X : Cx} {pins : List (Addr × Obj)} {σ : St} {H : Hp} {s : Shared} {A : Around} {E : Value → Shared → Prop} {Q : Value → Shared → Prop} {c : Value} {b : Bool}
inductive TyOf (K : PySem.W.Frag) (H : Hp) : V → Value → Prop where
  | non : TyOf K H .non (.type "NoneType")
  | bl (x : Bool) : TyOf K H (.bl x) (.type "bool")
  | int (i : Int) : TyOf K H (.int i) (.type "int")
  | str (x : Str) : TyOf K H (.str x) (.type "str")
  | flt (x : UInt64) : TyOf K H (.flt x) (.type "float")
  | lst {a : Addr} {xs : List V} (e : H a = some (.lst xs)) : TyOf K H (.ref a) (.type "list")
  | frz {a : Addr} {o : Obj} {xs : List V} (e : H a = some (.frz o (.lst xs))) : TyOf K H (.ref a) (.type "list")
  | tup {a : Addr} {xs : List V} (e : H a = some (.tup xs)) : TyOf K H (.ref a) (.type "tuple")
  | dK {a : Addr} {kvs : List (Key × V)} (e : H a = some (.dK kvs)) : TyOf K H (.ref a) (.type "dict")
  | dT {a : Addr} {kvs : List (List Key × V)} (e : H a = some (.dT kvs)) : TyOf K H (.ref a) (.type "dict")
  | ins {a C dx : Addr} {fs : List (Str × V)} (e : H a = some (.ins C dx fs)) (cl : Cls K C) (ha : PySem.W.findIn K (.ref C) "__class__" = some (some (.builtin "object.__class__")))
      (hn : PySem.W.specialIn K (.builtin "object.__class__") "__get__" = some (some (.builtin "getset_descriptor.__get__"))) (htk : PySem.W.takesIn K (.builtin "object.__class__") = some true)
      (hm : PySem.W.mroIn K C (.type "object") = some true) : TyOf K H (.ref a) (.ref C)
theorem isinst_ok {x : V} {u t : Value} (I : Inv X pins σ H s) (rx : RelV x u) (ty : TyOf X.K H x t) (e : PySem.W.kitOne X.K t c = some b) (h : ∀ tk, Q (.bool b) { s with toks := tk }) :
    wpAny (model X.prog X.w) A (call (.builtin "isinstance") [u, c]) Q E s := by
  cases ty with
  | non => cases (show u = Value.none from rx); exact PySem.W.kia_one PySem.W.kitx_none I.kIn True.intro e (fun z => nomatch z) h
  | bl y => cases (show u = Value.bool y from rx); exact PySem.W.kia_one PySem.W.kitx_bool I.kIn True.intro e (fun z => nomatch z) h
  | int i => obtain ⟨t, q⟩ := (show ∃ t, u = Value.int i t from rx); cases q; exact PySem.W.kia_one PySem.W.kitx_int I.kIn True.intro e (fun z => nomatch z) h
  | str y => obtain ⟨t, q⟩ := (show ∃ t, u = Value.str y t from rx); cases q; exact PySem.W.kia_one PySem.W.kitx_str I.kIn True.intro e (fun z => nomatch z) h
  | flt y => obtain ⟨t, q⟩ := (show ∃ t, u = Value.float y t from rx); cases q; exact PySem.W.kia_one PySem.W.kitx_float I.kIn True.intro e (fun z => nomatch z) h
  | @lst a xs ea =>
    cases (show u = Value.ref a from rx)
    obtain ⟨_, _, n, _, h1⟩ := (show ObjOk X.prog X.w H s.heap a (.lst xs) from I.hok a _ ea)
    exact PySem.W.kia_one PySem.W.kitx_list I.kIn ⟨_, h1, rfl⟩ e (fun z => nomatch z) h
  | @frz a ob xs ea =>
    cases (show u = Value.ref a from rx)
    obtain ⟨_, _, _, n, _, h1⟩ := (show ObjOk X.prog X.w H s.heap a (.frz ob (.lst xs)) from I.hok a _ ea)
    exact PySem.W.kia_one PySem.W.kitx_list I.kIn ⟨_, h1, rfl⟩ e (fun z => nomatch z) h
  | @tup a xs ea =>
    cases (show u = Value.ref a from rx)
    obtain ⟨_, _, _, p⟩ := (show ObjOk X.prog X.w H s.heap a (.tup xs) from I.hok a _ ea)
    obtain ⟨o, h1, h2, _⟩ := p
    exact PySem.W.kia_one PySem.W.kitx_tuple I.kIn ⟨o, h1, h2⟩ e (fun z => nomatch z) h
  | @dK a kvs ea =>
    cases (show u = Value.ref a from rx)
    obtain ⟨_, _, vs, _, p⟩ := (show ObjOk X.prog X.w H s.heap a (.dK kvs) from I.hok a _ ea)
    obtain ⟨o, es, ep, h1, h2, _⟩ := p
    exact PySem.W.kia_one PySem.W.kitx_dict I.kIn ⟨o, h1, h2.1⟩ e (fun z => nomatch z) h
  | @dT a kvs ea =>
    cases (show u = Value.ref a from rx)
    obtain ⟨_, _, xs, _, o, es, ep, h1, h2, _⟩ := (show ObjOk X.prog X.w H s.heap a (.dT kvs) from I.hok a _ ea)
    exact PySem.W.kia_one PySem.W.kitx_dict I.kIn ⟨o, h1, h2.1⟩ e (fun z => nomatch z) h
  | @ins a C dx fs ea cl ha hn htk hm =>
    cases (show u = Value.ref a from rx)
    obtain ⟨mA, O, _⟩ := ins_get I.hok ea
    obtain ⟨od, J, _⟩ := O.look
    exact PySem.W.kia_one (PySem.W.kitx_own (cl.get _) cl.hd ha hn htk hm) I.kIn J e (fun z => nomatch z) h
end
end L2
namespace L2
open PySem PySem.Spec PyProof.Rows
structure Room (k : Nat) (A : Around) : Prop where
  hd : A.handled = none
  dp : A.depth + 3 * k + 5 < recursionLimit
  un : A.units + 16 * k + 200 < cLine
  gd : A.guards = some []
theorem Room.mono {j k : Nat} {A : Around} (r : Room k A) (h : j ≤ k) : Room j A := ⟨r.hd, by have := r.dp; omega, by have := r.un; omega, r.gd⟩
theorem Room.deeper {k : Nat} {A : Around} (r : Room (k + 1) A) (env : Env) : Room k (A.deeper env) :=
  ⟨r.hd, by have := r.dp; show A.depth + 1 + 3 * k + 5 < _; omega, by have := r.un; show A.units + 3 + 16 * k + 200 < _; omega, r.gd⟩
theorem Room.in1 {k : Nat} {A : Around} (r : Room (k + 1) A) : Room k A.in1 :=
  ⟨r.hd, by have := r.dp; show A.depth + 3 * k + 5 < _; omega, by have := r.un; show A.units + 1 + 16 * k + 200 < _; omega, r.gd⟩
theorem Room.depth {k : Nat} {A : Around} (r : Room k A) : A.depth < recursionLimit := by have := r.dp; omega
theorem Room.units {k : Nat} {A : Around} (r : Room k A) : A.units + 64 < cLine := by have := r.un; omega
theorem Room.units0 {k : Nat} {A : Around} (r : Room k A) : A.units < cLine := by have := r.un; omega
def tNil : TA := fun _ H Q => Q [] H
def tCons (ta : TE) (tr : TA) : TA := fun σ H Q => ta σ H fun x H1 => tr σ H1 fun xs H2 => Q (x :: xs) H2
section
variable {X : Cx} {e : Expr} {es : List Expr} {te : TE} {t : TA} {pos : Pos}
theorem pa_nil : PA X [] tNil := fun _ _ _ _ H Q I h => Calls.spliced_nil ⟨[], H, I, .nil, h⟩
theorem pa_cons (ha : PE X e te) (hr : PA X es t) (hs : starEach (e :: es) X.env = (false, eval e X.env) :: starEach es X.env := by rfl) : PA X (e :: es) (tCons te t) := by
  intro pos pins s σ H Q I h
  rw [hs]
  show wpAny _ _ (spliced ((false, eval e X.env) :: backTo pos (starEach es X.env))) _ _ s
  refine Calls.spliced_cons (thn (ha pins s σ H _ I h) fun u s1 ⟨x, H1, I1, r1, q1⟩ => ?_)
  exact thn (hr pos pins s1 σ H1 _ I1 q1) fun us s2 ⟨xs, H2, I2, r2, q2⟩ => ⟨x :: xs, H2, I2, .cons r1 r2, q2⟩
def tTup (t : TA) : TE := fun σ H Q => t σ H fun xs H1 => xs.length ≤ sizeLine ∧ ∀ p, H1 p = none → Q (.ref p) (upd H1 p (.tup xs))
def tLst (t : TA) : TE := fun σ H Q => t σ H fun xs H1 => xs.length ≤ sizeLine ∧ ∀ p, H1 p = none → Q (.ref p) (upd H1 p (.lst xs))
theorem pe_tup {x1} (h : PA X es t) : PE X (.Tuple es x1 pos) (tTup t) := by
  intro pins s σ H Q I hq
  refine wpAny_Tuple_spliced (thn (h pos pins s σ H _ I hq) fun us s1 ⟨xs, H1, I1, r, z, q⟩ => ⟨by rw [← r.length]; exact z, ?_⟩)
  have hf : H1 s1.heap.objs.size = none := I1.hok.fresh (Nat.le_refl _)
  refine ⟨.ref s1.heap.objs.size, upd H1 s1.heap.objs.size (.tup xs), I1.laid (t' := s1.toks) (fun b u e => Heap.get?_push_of_some _ e) (Nat.le_refl _) ?_, rfl, q _ hf⟩
  exact ⟨z, us, r, ⟨_, Heap.get?_push_size _ rfl, rfl, _, rfl⟩⟩
theorem pe_lst (h : PA X es t) : PE X (.List es pos) (tLst t) := by
  intro pins s σ H Q I hq
  refine wpAny_List_spliced (thn (h pos pins s σ H _ I hq) fun us s1 ⟨xs, H1, I1, r, z, q⟩ => ⟨by rw [← r.length]; exact z, ?_⟩)
  have hf : H1 s1.heap.objs.size = none := I1.hok.fresh (Nat.le_refl _)
  refine ⟨.ref s1.heap.objs.size, upd H1 s1.heap.objs.size (.lst xs), I1.laid (t' := s1.toks) (fun b u e => Heap.get?_push_of_some _ e) (Nat.le_refl _) ?_, rfl, q _ hf⟩
  exact ⟨z, us, 0, r, Heap.get?_push_size _ rfl⟩
end
abbrev Sp := List V → Hp → VK → XK → Prop
abbrev CXT := List Env → Hp → Shared → XK → Value → Shared → Prop
structure Env0 (P : Program) (w : World) (K : PySem.W.Frag) (mg : Str → Option Value) (base : Heap) (A : Around) (outer : List Env) (s : Shared) (H : Hp) : Prop where
  frames : A.frames = some outer
  mod : Mod K mg base
  bs : ∀ b o, base.get? b = some o → s.heap.get? b = some o ∧ H b = none
  bsz : base.objs.size ≤ s.heap.objs.size
  funs : s.heap.FunFrames base outer
  frf : ∀ b ∈ frs outer, H b = none
  hok : HOk P w H s.heap
  bare : AllBare s.gens
def CE (outer : List Env) (P : Program) (w : World) (H : Hp) (s : Shared) (Q : VK) (u : Value) (s' : Shared) : Prop :=
  ∃ v H', s'.os = s.os ∧ AllBare s'.gens ∧ Un (frs outer) [] H H' s.heap s'.heap ∧ HOk P w H' s'.heap ∧ RelV v u ∧ Q v H'
def CR (CX : CXT) (outer : List Env) (P : Program) (w : World) (H : Hp) (s : Shared) (Q : VK) (E : XK) (r : Result) (s' : Shared) : Prop :=
  match r with
  | .ok (.ret u) => CE outer P w H s Q u s'
  | .ok _ => False
  | .error e => CX outer H s E e s'
structure FnOk (P : Program) (w : World) (K : PySem.W.Frag) (mg : Str → Option Value) (base : Heap) (CX : CXT) (k : Nat) (f : Addr) (fd : FuncData) (ps : List Str) (sp : Sp) : Prop where
  len : ∀ vs H Q E, sp vs H Q E → vs.length = ps.length
  run : ∀ (A : Around) (outer : List Env) (s : Shared) (H : Hp) (args : Args) (us : List Value) (vs : List V) (Q : VK) (E : XK), Room k A → Env0 P w K mg base A outer s H → BindsTo s fd args (ps.zip us) → Vals vs us → sp vs H Q E →
    codeAny (model P w) A (.call (.ref f) args) (CR CX outer P w H s Q E) s
theorem FnOk.mono {P : Program} {w : World} {K : PySem.W.Frag} {mg : Str → Option Value} {base : Heap} {CX : CXT} {j k : Nat} {f : Addr} {fd : FuncData} {ps : List Str} {sp : Sp} (F : FnOk P w K mg base CX j f fd ps sp) (h : j ≤ k) :
    FnOk P w K mg base CX k f fd ps sp := ⟨F.len, fun A outer s H args us vs Q E hr => F.run A outer s H args us vs Q E (hr.mono h)⟩
theorem FnOk.imp {P : Program} {w : World} {K : PySem.W.Frag} {mg : Str → Option Value} {base : Heap} {CX : CXT} {k : Nat} {f : Addr} {fd : FuncData} {ps : List Str} {sp sp' : Sp} (F : FnOk P w K mg base CX k f fd ps sp)
    (h : ∀ vs H Q E, sp' vs H Q E → sp vs H Q E) : FnOk P w K mg base CX k f fd ps sp' :=
  ⟨fun vs H Q E q => F.len vs H Q E (h _ _ _ _ q), fun A outer s H args us vs Q E hr he hb hv hs => F.run A outer s H args us vs Q E hr he hb hv (h _ _ _ _ hs)⟩
theorem Env0.in1 {P : Program} {w : World} {K : PySem.W.Frag} {mg : Str → Option Value} {base : Heap} {A : Around} {outer : List Env} {s : Shared} {H : Hp} (e : Env0 P w K mg base A outer s H) :
    Env0 P w K mg base A.in1 outer s H := ⟨e.frames, e.mod, e.bs, e.bsz, e.funs, e.frf, e.hok, e.bare⟩
section
variable {X : Cx} {pins : List (Addr × Obj)} {σ : St} {H : Hp} {s s' : Shared}
theorem Inv.env0 (I : Inv X pins σ H s) : Env0 X.prog X.w X.K X.mg X.base X.A X.stack s H :=
  ⟨I.ok.frames, I.ok.mod, I.bs, Nat.le_trans I.ok.bsz I.sz, I.stack, I.stkFree, I.hok, I.bare⟩
theorem Inv.after {Q : VK} {u : Value} (I : Inv X pins σ H s) (h : CE X.stack X.prog X.w H s Q u s') : EP X pins σ Q u s' := by
  obtain ⟨v, H', os, bare, un, hok, r, q⟩ := h
  obtain ⟨hh, g, d, t, os'⟩ := s'
  obtain rfl : os' = s.os := os
  exact ⟨v, H', I.call (h' := hh) (g' := g) (d' := d) (t' := t) (ch := []) un hok bare (fun b z => absurd z (by simp)), r, q⟩
end
def tCall (sp : Sp) (dvs : List V) (E : XK) (t : TA) : TE := fun σ H Q => t σ H fun vs H1 => sp (vs ++ dvs) H1 Q E
def Binds (K : PySem.W.Frag) (fd : FuncData) (ps : List Str) (ds : List Value) : Prop :=
  ∀ (s : Shared) (us : List Value), K.In s.heap → (us ++ ds).length = ps.length → BindsTo s fd ⟨us, []⟩ (ps.zip (us ++ ds))
theorem Binds.all {K : PySem.W.Frag} {fd : FuncData} {ps : List Str} (h : ∀ us : List Value, us.length = ps.length → bindArgs fd ⟨us, []⟩ = pure (ps.zip us)) : Binds K fd ps [] := fun s us _ hl => by
  rw [List.append_nil] at hl ⊢
  exact .of_eq (h us hl)
def Passes (CX : CXT) (X : Cx) (E : XK) : Prop := ∀ (pins : List (Addr × Obj)) (σ : St) (H : Hp) (s : Shared) (e : Value) (s' : Shared), Inv X pins σ H s → CX X.stack H s E e s' → X.xe e s'
section
variable {X : Cx} {CX : CXT} {k : Nat} {f C : Addr} {fd : FuncData} {ps : List Str} {sp : Sp} {dvs : List V} {ds : List Value} {E : XK} {x m : Str} {p pos apos : Pos} {e o : Expr} {es : List Expr} {ta : TE} {t : TA}
theorem run_fn {pins : List (Addr × Obj)} {σ : St} {H : Hp} {s : Shared} {Q : VK} {us : List Value} {vs : List V} (F : FnOk X.prog X.w X.K X.mg X.base CX k f fd ps sp) (hr : Room k X.A) (hb : Binds X.K fd ps ds) (hd : Vals dvs ds) (hx : Passes CX X E)
    (I : Inv X pins σ H s) (r : Vals vs us) (h : sp (vs ++ dvs) H Q E) : wpAny (model X.prog X.w) X.A (call (.ref f) us) (EP X pins σ Q) X.xe s := by
  have r2 : Vals (vs ++ dvs) (us ++ ds) := r.append hd
  have hl : (us ++ ds).length = ps.length := by rw [← r2.length]; exact F.len _ _ _ _ h
  refine wpAny_call (codeAny_mono (F.run X.A X.stack s H ⟨us, []⟩ (us ++ ds) (vs ++ dvs) Q E hr I.env0 (hb s us I.kIn hl) r2 h) fun r s' hq => ?_)
  cases r with
  | error e => exact hx pins σ H s e s' I hq
  | ok fl =>
    cases fl with
    | ret u => exact I.after hq
    | next => exact False.elim hq
    | brk => exact False.elim hq
    | cont => exact False.elim hq
theorem pe_call (F : FnOk X.prog X.w X.K X.mg X.base CX k f fd ps sp) (hr : Room k X.A) (hg : Gl X x) (hm : X.mg x = some (.ref f)) (hk : PySem.W.keepIn X.K (.ref f) = true) (hb : Binds X.K fd ps ds) (hd : Vals dvs ds) (hx : Passes CX X E)
    (ha : PA X (e :: es) t) (hdb : (x == ("__debug__" : Str)) = false := by decide) (he : starEach (e :: es) X.env = (false, eval e X.env) :: starEach es X.env := by rfl) (hpl : (backTo pos (starEach es X.env)).any (·.1) = false := by rfl) :
    PE X (.Call (.Name x p) (e :: es) [] pos) (tCall sp dvs E t) := by
  intro pins s σ H Q I h
  refine wpAny_Call_Name_kw (ld_glob I hg hm ?_ hdb)
  refine PySem.W.callWith_K (h₀ := X.base) I.ok.mod.kin hk (thn (ha pos pins s σ H _ I h) fun us s1 ⟨vs, H1, I1, r, q⟩ => ⟨I1.kIn, ?_⟩) he hpl
  exact run_fn F hr hb hd hx I1 r q
structure Mk (K : PySem.W.Frag) (C f : Addr) : Prop where
  makes : PySem.W.makesIn K C = true
  init : PySem.W.findIn K (.ref C) "__init__" = some (some (.ref f))
  fn : PySem.W.isFn K (.ref f) = true
  kp : PySem.W.keepIn K (.ref C) = true
end
section
variable {X : Cx} {CX : CXT} {k : Nat} {f C : Addr} {fd : FuncData} {ps ks : List Str} {sp : Sp} {E : XK} {x m : Str} {p pos apos kpos : Pos} {e o : Expr} {es : List Expr} {kws : List Keyword} {te ta : TE} {t tk : TA} {nm : Option Str}
structure KBinds (K : PySem.W.Frag) (fd : FuncData) (ps ks : List Str) (g : List Value → List Value → List Value) (gV : List V → List V → List V) : Prop where
  to : ∀ (s : Shared) (us ws : List Value), K.In s.heap → (g us ws).length = ps.length → BindsTo s fd ⟨us, ks.zip ws⟩ (ps.zip (g us ws))
  rel : ∀ {vs : List V} {us : List Value} {zs : List V} {ws : List Value}, Vals vs us → Vals zs ws → Vals (gV vs zs) (g us ws)
variable {g : List Value → List Value → List Value} {gV : List V → List V → List V}
end
structure FnScope (N P : List Str) (sc : Scope) : Prop where
  kind : sc.kind = .function
  co : sc.isCoroutine = false
  gen : sc.isGenerator = false
  nd : N.Nodup
  pre : N.take P.length = P
  par : ∀ x ∈ P, sc.names.lookup x = some .local ∨ sc.names.lookup x = some .cell
  nofree : ∀ y ∈ sc.names, y.2 ≠ .free
theorem bindL_out {kindOf : Str → Option NameKind} {x : Str} : ∀ {binds : List (Str × Value)} {m : Str → Option Value}, (∀ v, (x, v) ∉ binds) → bindL kindOf binds m x = m x
  | [], _, _ => rfl
  | (n, v) :: r, m, h => by
    unfold bindL
    rw [bindL_out fun w hw => h w (List.mem_cons_of_mem _ hw)]
    split
    · have : x ≠ n := by rintro rfl; exact h v List.mem_cons_self
      simp [this]
    · rfl
theorem bindC_out {kindOf : Str → Option NameKind} {x : Str} : ∀ {binds : List (Str × Value)} {m : Str → Option Value}, (∀ v, (x, v) ∉ binds) → bindC kindOf binds m x = m x
  | [], _, _ => rfl
  | (n, v) :: r, m, h => by
    unfold bindC
    rw [bindC_out fun w hw => h w (List.mem_cons_of_mem _ hw)]
    split
    · rfl
    · have : x ≠ n := by rintro rfl; exact h v List.mem_cons_self
      simp [this]
theorem bindL_get {kindOf : Str → Option NameKind} {x : Str} {v : Value} : ∀ {P : List Str} {vs : List Value} {i : Nat} {m : Str → Option Value}, P.Nodup → P[i]? = some x → vs[i]? = some v → kindOf x = some .local →
    bindL kindOf (P.zip vs) m x = some v
  | [], _, _, _, _, h, _, _ => by simp at h
  | _ :: _, [], _, _, _, _, h, _ => by simp at h
  | p :: P, w :: vs, 0, m, nd, h1, h2, hk => by
    simp at h1 h2; subst h1; subst h2
    show bindL kindOf ((p, w) :: P.zip vs) m p = _
    unfold bindL
    rw [bindL_out fun v hv => (List.nodup_cons.mp nd).1 (List.of_mem_zip hv).1, if_pos hk]
    simp
  | p :: P, w :: vs, i + 1, m, nd, h1, h2, hk => by
    show bindL kindOf ((p, w) :: P.zip vs) m x = _
    unfold bindL
    exact bindL_get (i := i) (List.nodup_cons.mp nd).2 (by simpa using h1) (by simpa using h2) hk
theorem bindC_get {kindOf : Str → Option NameKind} {x : Str} {v : Value} : ∀ {P : List Str} {vs : List Value} {i : Nat} {m : Str → Option Value}, P.Nodup → P[i]? = some x → vs[i]? = some v → kindOf x ≠ some .local →
    bindC kindOf (P.zip vs) m x = some v
  | [], _, _, _, _, h, _, _ => by simp at h
  | _ :: _, [], _, _, _, _, h, _ => by simp at h
  | p :: P, w :: vs, 0, m, nd, h1, h2, hk => by
    simp at h1 h2; subst h1; subst h2
    show bindC kindOf ((p, w) :: P.zip vs) m p = _
    unfold bindC
    rw [bindC_out fun v hv => (List.nodup_cons.mp nd).1 (List.of_mem_zip hv).1, if_neg hk]
    simp
  | p :: P, w :: vs, i + 1, m, nd, h1, h2, hk => by
    show bindC kindOf ((p, w) :: P.zip vs) m x = _
    unfold bindC
    exact bindC_get (i := i) (List.nodup_cons.mp nd).2 (by simpa using h1) (by simpa using h2) hk
def start (N : List Str) (vs : List V) : St := vs.map some ++ List.replicate (N.length - vs.length) none
def cxOf (CX : CXT) (P : Program) (w : World) (K : PySem.W.Frag) (mg : Str → Option Value) (base : Heap) (N : List Str) (qual : Str) (scope : Scope) (f : Addr) (cd : Value) (A : Around) (outer : List Env) (s : Shared) (H : Hp) (E : XK) : Cx where
  prog := P
  w := w
  K := K
  mg := mg
  base := base
  A := A.deeper (envOfC qual scope s.heap.objs.size f cd)
  N := N
  s₀ := s
  H₀ := H
  env := envOfC qual scope s.heap.objs.size f cd
  outer := outer
  stack := envOfC qual scope s.heap.objs.size f cd :: outer
  ex := []
  calm := true
  fn := fun _ => true
  pn := []
  xe := fun e s' => wpAny (model P w) (A.deeper (envOfC qual scope s.heap.objs.size f cd)) (leaving (envOfC qual scope s.heap.objs.size f cd) e) (fun _ s'' => CX outer H s E e s'') (fun e' s'' => CX outer H s E e' s'') s'
theorem cell_has {sc : Scope} {n : Nat} {x : Str} (h : sc.names.lookup x = some .cell) : ∃ c, (cellsFrom n sc.names []).lookup x = some c := by
  have q := PySem.W.cellsFrom_some sc.names n [] (.inl h)
  exact Option.isSome_iff_exists.mp q
theorem inv_start {CX : CXT} {P : Program} {w : World} {K : PySem.W.Frag} {mg : Str → Option Value} {base : Heap} {N ps : List Str} {qual : Str} {scope : Scope} {f : Addr} {cd : Value} {A : Around} {outer : List Env} {s s1 : Shared} {H : Hp} {E : XK} {us : List Value} {vs : List V}
    (S : FnScope N ps scope) (hd : A.handled = none) (e0 : Env0 P w K mg base A outer s H) (hl : vs.length = ps.length) (r : Vals vs us)
    (x : InCallC s s.heap.objs.size (bindL (envOfC qual scope s.heap.objs.size f cd).kindOf (ps.zip us) fun _ => none) (cellsFrom (s.heap.objs.size + 1) scope.names []) (bindC (envOfC qual scope s.heap.objs.size f cd).kindOf (ps.zip us) fun _ => none) s1) :
    Inv (cxOf CX P w K mg base N qual scope f cd A outer s H E) [] (start N vs) H s1 := by
  have hpl : ps.length ≤ N.length := by have := congrArg List.length S.pre; rw [List.length_take] at this; omega
  obtain ⟨h1, tk, rfl, hk⟩ := x.done
  have noA : ∀ b : Addr, b ∉ (cxOf CX P w K mg base N qual scope f cd A outer s H E).ex := fun b z => absurd (show b ∈ ([] : List Addr) from z) (by simp)
  refine ⟨⟨e0.mod, S.kind, rfl, rfl, Nat.le_refl _, fun y z c h1 h2 => ?_, fun y hy => ?_, fun y c _ h => ?_, fun _ => hd, Around.frames_deeper e0.frames, .inr ⟨rfl, rfl⟩, fun b z => absurd z (noA b), e0.bs, e0.bsz, fun b _ _ => noA b, fun b z => absurd z (noA b), e0.funs, e0.frf⟩,
    rfl, e0.bare, Un.kept hk, ⟨_, x.toInCall.ns, fun i y v h1 h2 h3 => ?_⟩, fun y c h => ⟨_, x.cell y c h⟩, e0.hok.fresh (Nat.le_refl _), fun y c h => ?_, fun p hp => absurd (show p ∈ ([] : List (Addr × Obj)) from hp) (by simp), e0.hok.kept hk, ?_⟩
  · exact name_of_addr x.apart (PySem.mem_of_lookup h1) (PySem.mem_of_lookup h2)
  · have hy : scope.names.lookup y = some .cell ∨ scope.names.lookup y = some .free := hy
    rcases hy with hy | hy
    · exact cell_has hy
    · exact absurd rfl (S.nofree _ (PySem.mem_of_lookup hy))
  · exact Nat.le_of_lt (x.above y c (PySem.mem_of_lookup h))
  · have hi : i < vs.length := by
      unfold start at h2
      by_cases hi : i < vs.length
      · exact hi
      · rw [List.getElem?_append_right (by simpa using hi)] at h2
        rw [List.getElem?_replicate] at h2
        split at h2 <;> cases h2
    have ha : vs[i]? = some v := by
      unfold start at h2
      rw [List.getElem?_append_left (by simpa using hi), List.getElem?_map] at h2
      cases e : vs[i]? with
      | none => rw [e] at h2; cases h2
      | some a => rw [e] at h2; cases h2; rfl
    obtain ⟨u, hu, rv⟩ := r.get ha
    have hp : ps[i]? = some y := by
      rw [← S.pre, List.getElem?_take_of_lt (by omega)]; exact h1
    have ndP : ps.Nodup := by rw [← S.pre]; exact S.nd.sublist (List.take_sublist _ _)
    refine ⟨u, rv, ?_⟩
    rcases S.par y (List.mem_of_getElem? hp) with k | k
    · exact .inl ⟨k, bindL_get ndP hp hu k⟩
    · obtain ⟨c, e⟩ := cell_has (n := s.heap.objs.size + 1) k
      refine .inr ⟨.inl k, c, e, ?_⟩
      have q := x.cell y c e
      rw [bindC_get ndP hp hu (by show scope.names.lookup y ≠ _; rw [k]; decide)] at q
      exact q
  · exact e0.hok.fresh (Nat.le_of_lt (x.above y c (PySem.mem_of_lookup h)))
  · unfold start
    show _ = N.length
    rw [List.length_append, List.length_map, List.length_replicate]
    omega
theorem fn_of {CX : CXT} {P : Program} {w : World} {K : PySem.W.Frag} {mg : Str → Option Value} {base : Heap} {k : Nat} {f : Addr} {name qual : Str} {params : Arguments} {body : List Stmt} {scope : Scope} {dV kV doc pm cdv ct oc : Value} {an od : Option Addr}
    {osl : Array (Option Value)} {N ps : List Str} {sp : Sp} (lk : K.lookup f = some ⟨oc, od, .func (PySem.W.fnOf name qual params body scope dV kV doc pm an cdv ct), osl⟩) (hcd : PySem.W.codeIn K cdv qual = true) (S : FnScope N ps scope)
    (len : ∀ vs H Q E, sp vs H Q E → vs.length = ps.length)
    (hbody : ∀ (A : Around) (outer : List Env) (s : Shared) (H : Hp) (vs : List V) (Q : VK) (E : XK), Room k (A.deeper (envOfC qual scope s.heap.objs.size f cdv)) → sp vs H Q E →
      ∃ t, PSs (cxOf CX P w K mg base N qual scope f cdv A outer s H E) body t ∧ t { nx := fun _ H' => Q .non H', rt := Q } (start N vs) H) :
    FnOk P w K mg base CX (k + 1) f (PySem.W.fnOf name qual params body scope dV kV doc pm an cdv ct) ps sp := by
  refine ⟨len, fun A outer s H args us vs Q E hr e0 hb r hsp => ?_⟩
  have hl := len _ _ _ _ hsp
  have KX : K.In s.heap := e0.mod.kin.keeps fun b o e => (e0.bs b o e).1
  have lim : s.heap.NoLimit := e0.mod.nolimit.keeps fun b o e => (e0.bs b o e).1
  have hkind : ∀ y ∈ ps.zip us, scope.names.lookup y.1 = some .local ∨ (scope.names.lookup y.1 = some .cell ∧ ((cellsFrom (s.heap.objs.size + 1) scope.names []).lookup y.1).isSome = true) := fun ⟨n, v⟩ hy => by
    rcases S.par n (List.of_mem_zip hy).1 with q | q
    · exact .inl q
    · exact .inr ⟨q, PySem.W.cellsFrom_some _ _ _ (.inl q)⟩
  refine codeAny_call_function hr.depth (KX _ _ lk) rfl S.co S.gen rfl (PySem.W.codeRec_of KX hcd) (hb _ _ _ _ ?_)
  refine wpAny_newFunctionEnv_cells S.kind hkind fun env he s1 x => ?_
  subst he
  refine ⟨lim.keeps x.toInCall.keep, codeAny_func ?_⟩
  obtain ⟨t, ht, hq⟩ := hbody A outer s H vs Q E (hr.deeper _) hsp
  have I : Inv (cxOf CX P w K mg base N qual scope f cdv A outer s H E) [] (start N vs) H s1 := inv_start S hr.hd e0 hl r x
  refine wpAny_mono (ht [] s1 (start N vs) H _ I hq) (fun fl s' hs => ?_) fun e s' hs => hs
  have fin : ∀ {σ' : St} {H' : Hp} {v : V} {u : Value}, Inv (cxOf CX P w K mg base N qual scope f cdv A outer s H E) [] σ' H' s' → RelV v u → Q v H' → CE outer P w H s Q u s' :=
    fun {σ' H' v u} J rv q => ⟨v, H', J.os, J.bare, J.base, J.hok, rv, q⟩
  cases fl with
  | ret u =>
    obtain ⟨v, σ', H', J, rv, q⟩ := hs
    exact fin J rv q
  | next =>
    obtain ⟨σ', H', J, q⟩ := hs
    exact fin (v := V.non) (u := Value.none) J rfl q
  | brk =>
    obtain ⟨_, _, _, q⟩ := hs
    exact False.elim q
  | cont =>
    obtain ⟨_, _, _, q⟩ := hs
    exact False.elim q
end L2
namespace L2
open PySem PySem.Spec PyProof.Rows
section
variable {X : Cx} {x : Str} {p pos : Pos} {e : Expr} {es : List Expr} {t : TA} {id T : String} {r : List V → Hp → VK → Prop}
def tCB (r : List V → Hp → VK → Prop) (t : TA) : TE := fun σ H Q => t σ H fun vs H1 => r vs H1 Q
theorem pe_callB (hc : CallR X (.builtin id) r) (hg : Gl X x) (hm : X.mg x = none) (hv : bootBuiltins x = some (.builtin id)) (ha : PA X (e :: es) t) (hn : x ≠ "__name__" := by decide) (hdb : (x == ("__debug__" : Str)) = false := by decide)
    (he : starEach (e :: es) X.env = (false, eval e X.env) :: starEach es X.env := by rfl) (hpl : (backTo pos (starEach es X.env)).any (·.1) = false := by rfl) : PE X (.Call (.Name x p) (e :: es) [] pos) (tCB r t) := by
  intro pins s σ H Q I h
  refine wpAny_Call_Name_kw (ld_blt I hg hm hv ?_ hn hdb)
  exact PyProof.Rows.callWith_builtin1 (thn (ha pos pins s σ H _ I h) fun us s1 ⟨vs, H1, I1, r1, q1⟩ => hc pins s1 σ H1 vs us Q I1 r1 q1) he hpl
theorem pe_callTy (hc : CallR X (.type T) r) (hg : Gl X x) (hm : X.mg x = none) (hv : bootBuiltins x = some (.type T)) (ha : PA X (e :: es) t) (hn : x ≠ "__name__" := by decide) (hdb : (x == ("__debug__" : Str)) = false := by decide)
    (he : starEach (e :: es) X.env = (false, eval e X.env) :: starEach es X.env := by rfl) (hpl : (backTo pos (starEach es X.env)).any (·.1) = false := by rfl) : PE X (.Call (.Name x p) (e :: es) [] pos) (tCB r t) := by
  intro pins s σ H Q I h
  refine wpAny_Call_Name_kw (ld_blt I hg hm hv ?_ hn hdb)
  exact PyProof.Rows.callWith_type1 (thn (ha pos pins s σ H _ I h) fun us s1 ⟨vs, H1, I1, r1, q1⟩ => hc pins s1 σ H1 vs us Q I1 r1 q1) he hpl
end
end L2
namespace HT
open PySem PyProof.Rows
section
open PySem.SeqAt
open PySem.AutoSeq1 (wpAny_loadPart')
open PySem.MeetsSeq PySem.MeetsSeq2 PySem.MeetsSeq3
end
section
variable {prog : Program} {w : World} {A : Around} {E : Value → Shared → Prop} {s : Shared}
theorem cat_tup {t b : Addr} {vs ws : List Value} {Q : Value → Shared → Prop} (ht : IsTup s.heap t vs.toArray) (hb : IsTup s.heap b ws.toArray) (hv : vs ≠ [])
    (h1 : ws = [] → Q (.ref t) s) (h2 : ws ≠ [] → Q (.ref s.heap.objs.size) { s with heap := s.heap.push { cls := .type "tuple", data := .seq (vs ++ ws).toArray } })
    (hsz : vs.length + ws.length ≤ sizeLine) : wpAny (model prog w) A (binaryOp .Add (.ref t) (.ref b)) Q E s := by
  obtain ⟨⟨cls, dd, data, sl⟩, ho, hc, n, hd⟩ := id ht
  obtain ⟨⟨cls2, dd2, data2, sl2⟩, ho2, hc2, n2, hd2⟩ := id hb
  simp only at hc hd hc2 hd2
  subst hc hd hc2 hd2
  have e : vs.toArray ++ ws.toArray = (vs ++ ws).toArray := by simp
  by_cases hw : ws = []
  · exact concat_meets ⟨_, ho, rfl⟩ ⟨_, ho2, rfl⟩ noFill_tuple_add seq_tuple_add PySem.F.slot_tuple_add PySem.F.entry_tuple_add (PySem.F.args_tuple_add_2 _ _)
      (tuple_addW1 t b vs.toArray ws.toArray n n2 dd dd2 sl sl2 (by simpa using hv) (by simp [hw])) ⟨ho, ho2, h1 hw⟩
  · refine concat_meets ⟨_, ho, rfl⟩ ⟨_, ho2, rfl⟩ noFill_tuple_add seq_tuple_add PySem.F.slot_tuple_add PySem.F.entry_tuple_add (PySem.F.args_tuple_add_2 _ _)
      (tuple_addW2 t b vs.toArray ws.toArray n n2 dd dd2 sl sl2 (by simpa using hv) (by simpa using hw) (by rw [List.size_toArray, List.size_toArray]; exact hsz)) ⟨ho, ho2, ?_⟩
    rw [e]
    exact h2 hw
def sIx (n d : Nat) : Option Int → Nat
  | none => d
  | some v => if v < 0 then (v + (n : Int)).toNat else min v.toNat n
theorem sIx_none (n d : Nat) : sIx n d none = d := rfl
theorem sIx_nat (n d k : Nat) : sIx n d (some (k : Int)) = min k n := by
  show (if (k : Int) < 0 then ((k : Int) + (n : Int)).toNat else min (k : Int).toNat n) = min k n
  rw [if_neg (by omega), Int.toNat_natCast]
theorem sIx_le (n d : Nat) (hd : d ≤ n) (o : Option Int) : sIx n d o ≤ n := by
  cases o with
  | none => exact hd
  | some v =>
    show (if v < 0 then (v + (n : Int)).toNat else min v.toNat n) ≤ n
    by_cases hv : v < 0
    · rw [if_pos hv]; omega
    · rw [if_neg hv]; exact Nat.min_le_right _ _
theorem clip_eq (v : Int) (n d : Nat) : (if v < 0 then max (v + (n : Int)) 0 else min v (n : Int)) = ((sIx n d (some v) : Nat) : Int) := by
  show (if v < 0 then max (v + (n : Int)) 0 else min v (n : Int)) = (((if v < 0 then (v + (n : Int)).toNat else min v.toNat n) : Nat) : Int)
  by_cases hv : v < 0
  · simp only [if_pos hv]; omega
  · simp only [if_neg hv]; omega
theorem adjust_gen (lo hi : Option Int) (n : Nat) : Builtin.Slice.sliceAdjust lo hi 1 (n : Int) = (((sIx n 0 lo : Nat) : Int), ((sIx n n hi : Nat) : Int)) := by
  have h1 : ¬ ((1 : Int) < 0) := by omega
  unfold Builtin.Slice.sliceAdjust
  simp only [h1, if_false]
  refine Prod.ext ?_ ?_
  · cases lo with
    | none => rfl
    | some v => exact clip_eq v n 0
  · cases hi with
    | none => rfl
    | some v => exact clip_eq v n n
theorem places_gen (i j : Nat) : Builtin.Slice.slicePlaces (i : Int) (j : Int) 1 = j - i := by
  unfold Builtin.Slice.slicePlaces
  have h1 : (1 : Int) > 0 := by omega
  simp only [h1, if_true, Int.ediv_one]
  split <;> omega
theorem slicePart_ {v : Value} {o : Option Int} {Q : Option Int → Shared → Prop} (p : IsPart v o) (h : Q o s) : wpAny (model prog w) A (Builtin.Slice.slicePartIndex v) Q E s := by
  cases p with
  | none => exact slicePart_none h
  | int i t => exact slicePart_int h
theorem sliceApplied_gen {sl : Addr} {vl vu : Value} {lo hi : Option Int} {n : Nat} {Q : Int × Int × Nat → Shared → Prop} (hs : s.heap.IsSliceOf sl vl vu .none) (pl : IsPart vl lo) (pu : IsPart vu hi)
    (h : Q (((sIx n 0 lo : Nat) : Int), 1, sIx n n hi - sIx n 0 lo) s) : wpAny (model prog w) A (Builtin.Slice.sliceApplied (.ref sl) (pure (n : Int))) Q E s := by
  obtain ⟨os, hos, hcs, hds⟩ := id hs
  unfold Builtin.Slice.sliceApplied Builtin.Slice.sliceFields
  refine wpAny_bind (wpAny_bind (wpAny_field hos hds (x := vl) rfl (wpAny_bind (wpAny_field hos hds (x := vu) rfl (wpAny_bind (wpAny_field hos hds (x := .none) rfl (wpAny_pure ?_)))))))
  refine wpAny_bind (slicePart_none ?_)
  show wpAny _ _ (if ((1 : Int) == 0) = true then _ else _) _ _ s
  rw [if_neg (by decide)]
  refine wpAny_bind (slicePart_ pl (wpAny_bind (slicePart_ pu (wpAny_bind (wpAny_pure ?_)))))
  show wpAny _ _ (match Builtin.Slice.sliceAdjust lo hi 1 (n : Int) with | (lo, hi) => pure (lo, (1 : Int), Builtin.Slice.slicePlaces lo hi 1)) _ _ s
  rw [adjust_gen lo hi n]
  show wpAny _ _ (pure (((sIx n 0 lo : Nat) : Int), (1 : Int), Builtin.Slice.slicePlaces ((sIx n 0 lo : Nat) : Int) ((sIx n n hi : Nat) : Int) 1)) _ _ s
  rw [places_gen]
  exact wpAny_pure h
theorem pick_gen (xs : Array Value) (i k : Nat) : ((List.range k).filterMap fun (m : Nat) => xs[((i : Int) + (m : Int) * 1).toNat]?).toArray = ((xs.toList.drop i).take k).toArray := by
  have e : (fun (m : Nat) => xs[((i : Int) + (m : Int) * 1).toNat]?) = fun m => xs[i + m]? := by
    funext m
    have : ((i : Int) + (m : Int) * 1).toNat = i + m := by omega
    rw [this]
  rw [e]
  have := pick_run xs i k
  rw [List.filterMap_map] at this
  have e2 : ((fun x => xs[x]?) ∘ fun x => i + x) = fun m => xs[i + m]? := rfl
  rw [e2] at this
  rw [this]
theorem getItem_tuple_cut {t sl : Addr} {items : Array Value} {vl vu : Value} {lo hi : Option Int} {Q : Value → Shared → Prop} (ht : IsTup s.heap t items) (hs : s.heap.IsSliceOf sl vl vu .none) (pl : IsPart vl lo) (pu : IsPart vu hi)
    (hw : ¬ (sIx items.size 0 lo = 0 ∧ sIx items.size items.size hi = items.size))
    (h : Q (.ref s.heap.objs.size) { s with heap := s.heap.push { cls := .type "tuple", data := .seq ((items.toList.drop (sIx items.size 0 lo)).take (sIx items.size items.size hi - sIx items.size 0 lo)).toArray } })
    (hsz : items.size ≤ sizeLine) : wpAny (model prog w) A (getItem (.ref t) (.ref sl)) Q E s := by
  have htake : sizeOk (.seq ((items.toList.drop (sIx items.size 0 lo)).take (sIx items.size items.size hi - sIx items.size 0 lo)).toArray) := by
    show ((items.toList.drop (sIx items.size 0 lo)).take (sIx items.size items.size hi - sIx items.size 0 lo)).toArray.size ≤ sizeLine
    rw [List.size_toArray, List.length_take, List.length_drop, Array.length_toList]
    omega
  have hj : sIx items.size items.size hi ≤ items.size := sIx_le _ _ (Nat.le_refl _) hi
  obtain ⟨os, hos, hcs, hds⟩ := id hs
  have hTs : s.TypeIs (.ref sl) "slice" := ⟨os, hos, hcs⟩
  unfold getItem
  try with_reducible refine wpAny_holding ?_
  first | refine wpAny_bind (wpAny_pure ?_) | skip
  refine wpAny_bind (wpAny_sequenceKey ht.typeIs (by decide) ?_)
  refine wpAny_bind (wpAny_callSpecial?_slot (name := Str.ofString "__getitem__") ht.typeIs PyProof.Rows.slot_tuple_getitem
    (wpAny_call_entry PyProof.Rows.slot_tuple_getitem ht.typeIs entry_tuple_getitem ?_ (args_tuple_getitem _ _)))
  show wpAny _ _ (Builtin.Tuple.tupleItemsOf (.ref t) >>= _) _ _ s
  refine wpAny_bind (tupleItemsOf_ ht ?_)
  refine wpAny_bind (wpAny_typeOf hTs ?_)
  rw [if_pos (by decide)]
  refine wpAny_bind (sliceApplied_gen hs pl pu ?_)
  have hno : ¬ ((((sIx items.size 0 lo : Nat) : Int) == 0 && (1 : Int) == 1 && (sIx items.size items.size hi - sIx items.size 0 lo) == items.size) = true) := by
    intro q
    rw [Bool.and_eq_true, Bool.and_eq_true] at q
    have q1 : ((sIx items.size 0 lo : Nat) : Int) = 0 := eq_of_beq q.1.1
    have q2 : sIx items.size items.size hi - sIx items.size 0 lo = items.size := eq_of_beq q.2
    exact hw ⟨by omega, by omega⟩
  show wpAny _ _ (if (((sIx items.size 0 lo : Nat) : Int) == 0 && (1 : Int) == 1 && (sIx items.size items.size hi - sIx items.size 0 lo) == items.size) = true then _ else _) _ _ s
  rw [if_neg hno, pick_gen]
  first
    | exact wpAny_bind (m := Builtin.Tuple.tupleExact _) (wpAny_newObj_type (wpAny_pure ⟨_, rfl, wpAny_pure h⟩) htake)
    | exact wpAny_bind (m := Builtin.Tuple.tupleExact _) (wpAny_newObj_type (wpAny_bind (wpAny_pure (wpAny_pure ⟨_, rfl, wpAny_pure h⟩))) htake)
    | exact wpAny_bind (wpAny_bind (m := Builtin.Tuple.tupleExact _) (wpAny_newObj_type (wpAny_pure (wpAny_pure ⟨_, rfl, wpAny_pure h⟩)) htake))
    | exact wpAny_bind (wpAny_bind (m := Builtin.Tuple.tupleExact _) (wpAny_newObj_type (wpAny_pure ⟨_, rfl, wpAny_pure h⟩) htake))
end
end HT
namespace L2
open PySem PySem.Spec PyProof.Rows
abbrev TO := St → Hp → (Option Int → Hp → Prop) → Prop
def PO (X : Cx) (e : Option Expr) (t : TO) : Prop :=
  ∀ (pins : List (Addr × Obj)) (s : Shared) (σ : St) (H : Hp) (Q : Option Int → Hp → Prop), Inv X pins σ H s → t σ H Q →
    wpAny (model X.prog X.w) X.A (evalPart e X.env) (fun u s' => ∃ o H', Inv X pins σ H' s' ∧ IsPart u o ∧ Q o H') X.xe s
def tNoPart : TO := fun _ H Q => Q none H
def tPart (t : TE) : TO := fun σ H Q => t σ H fun x H1 => ∃ i, x = .int i ∧ Q (some i) H1
section
variable {X : Cx} {e : Expr} {te : TE} {lo hi : Option Expr} {tl th : TO} {pos p2 : Pos}
theorem po_none : PO X none tNoPart := by
  intro pins s σ H Q I h
  rw [evalPart_none]
  exact wpAny_pure ⟨none, H, I, .none, h⟩
theorem po_some (h : PE X e te) : PO X (some e) (tPart te) := by
  intro pins s σ H Q I hw
  rw [evalPart_some]
  refine thn (h pins s σ H _ I hw) fun u s1 ⟨x, H1, I1, r1, q1⟩ => ?_
  obtain ⟨i, rfl, q⟩ := q1
  obtain ⟨t, rfl⟩ := r1
  exact ⟨some i, H1, I1, .int i t, q⟩
def SlR (X : Cx) (r : V → Option Int → Option Int → Hp → VK → Prop) : Prop :=
  ∀ (pins : List (Addr × Obj)) (s : Shared) (σ : St) (H : Hp) (x : V) (v vl vu : Value) (lo hi : Option Int) (sl : Addr) (Q : VK), Inv X pins σ H s → RelV x v → s.heap.IsSliceOf sl vl vu .none → IsPart vl lo → IsPart vu hi → r x lo hi H Q →
    ∃ T id, typeLookup (.type T) "__getitem__" = pure (some (.builtin id)) ∧ s.TypeIs v T ∧ wpAny (model X.prog X.w) X.A (getItem v (.ref sl)) (EP X pins σ Q) X.xe s
theorem SlR.or {r r' : V → Option Int → Option Int → Hp → VK → Prop} (h : SlR X r) (h' : SlR X r') : SlR X (fun x lo hi H Q => r x lo hi H Q ∨ r' x lo hi H Q) := by
  intro pins s σ H x v vl vu lo hi sl Q I rx hs pl pu q
  rcases q with q | q
  · exact h pins s σ H x v vl vu lo hi sl Q I rx hs pl pu q
  · exact h' pins s σ H x v vl vu lo hi sl Q I rx hs pl pu q
def tSl (r : V → Option Int → Option Int → Hp → VK → Prop) (te : TE) (tl th : TO) : TE := fun σ H Q => te σ H fun x H1 => tl σ H1 fun l H2 => th σ H2 fun u H3 => r x l u H3 Q
theorem pe_slice {r : V → Option Int → Option Int → Hp → VK → Prop} (hr : SlR X r) (he : PE X e te) (hl : PO X lo tl) (hu : PO X hi th) : PE X (.Subscript e (.Slice lo hi none p2) pos) (tSl r te tl th) := by
  intro pins s σ H Q I h
  refine Subscript_ (thn (he pins s σ H _ I h) fun v s1 ⟨x, H1, I1, r1, q1⟩ => ?_)
  refine wpAny_Slice (thn (hl pins s1 σ H1 _ I1 q1) fun vl s2 ⟨l, H2, I2, pl, q2⟩ => thn (hu pins s2 σ H2 _ I2 q2) fun vu s3 ⟨u, H3, I3, pu, q3⟩ => ?_)
  rw [evalPart_none]
  refine wpAny_pure ?_
  have I4 : Inv X pins σ H3 { s3 with heap := s3.heap.push { cls := .type "slice", data := .fields #[vl, vu, .none] } } := I3.kept (t' := s3.toks) fun b ob q => Heap.get?_push_of_some _ q
  obtain ⟨T, id, hT, ht, hg⟩ := hr pins { s3 with heap := s3.heap.push { cls := .type "slice", data := .fields #[vl, vu, .none] } } σ H3 x v vl vu l u s3.heap.objs.size Q I4 r1 (Heap.IsSliceOf.new ..) pl pu q3
  show wpAny (model X.prog X.w) X.A (subscriptTail e (.Slice lo hi none p2) v (.ref s3.heap.objs.size)) (EP X pins σ Q) X.xe { s3 with heap := s3.heap.push { cls := .type "slice", data := .fields #[vl, vu, .none] } }
  exact tail_any (ops := [.ref s3.heap.objs.size, v]) ht hT hg (by with_unfolding_all rfl)
def cutV (xs : List V) (lo hi : Option Int) : List V := (xs.drop (HT.sIx xs.length 0 lo)).take (HT.sIx xs.length xs.length hi - HT.sIx xs.length 0 lo)
theorem cutV_length (xs : List V) (lo hi : Option Int) : (cutV xs lo hi).length ≤ xs.length := by
  unfold cutV
  rw [List.length_take, List.length_drop]
  omega
def rSlT (K : PySem.W.Frag) : V → Option Int → Option Int → Hp → VK → Prop := fun x lo hi H Q => ∃ a xs, x = .ref a ∧ SqT K H a xs ∧
  ¬ (HT.sIx xs.length 0 lo = 0 ∧ HT.sIx xs.length xs.length hi = xs.length) ∧ ∀ p, H p = none → Q (.ref p) (upd H p (.tup (cutV xs lo hi)))
theorem sl_tup : SlR X (rSlT X.K) := by
  intro pins s σ H x v vl vu lo hi sl Q I rx hs pl pu h
  obtain ⟨a, xs, rfl, hx, hw, q⟩ := h
  cases rx
  obtain ⟨its, r, ht, hz⟩ := I.tuple hx
  have hlen : its.toArray.size = xs.length := by rw [List.size_toArray]; exact r.length.symm
  refine ⟨"tuple", _, PyProof.Rows.slot_tuple_getitem.lookup, ht.typeIs, ?_⟩
  refine HT.getItem_tuple_cut ht hs pl pu (by rw [hlen]; exact hw) ?_ (by rw [hlen]; exact hz)
  rw [hlen]
  refine ⟨.ref s.heap.objs.size, _, I.laid (t' := s.toks) (o := .tup (cutV xs lo hi)) (fun b ob q => Heap.get?_push_of_some _ q) (Nat.le_refl _) ?_, rfl, q _ (I.hok.fresh (Nat.le_refl _))⟩
  exact ⟨Nat.le_trans (cutV_length xs lo hi) hz, _, (r.drop (HT.sIx xs.length 0 lo)).take (HT.sIx xs.length xs.length hi - HT.sIx xs.length 0 lo), IsTup.new _ _⟩
def rCatT (K : PySem.W.Frag) : R2 := fun x y H Q => ∃ a b xs ys, x = .ref a ∧ y = .ref b ∧ SqT K H a xs ∧ SqT K H b ys ∧ xs ≠ [] ∧ xs.length + ys.length ≤ sizeLine ∧
  (ys = [] → Q (.ref a) H) ∧ (ys ≠ [] → ∀ p, H p = none → Q (.ref p) (upd H p (.tup (xs ++ ys))))
theorem Vals.nil_iff {xs : List V} {us : List Value} (r : Vals xs us) : us = [] ↔ xs = [] := by
  cases r with
  | nil => simp
  | cons _ _ => simp
theorem op_catT : OpR X (binaryOp .Add) (rCatT X.K) := by
  intro pins s σ H x y v u Q I rx ry h
  obtain ⟨a, b, xs, ys, rfl, rfl, ha, hb, hx, hz, q1, q2⟩ := h
  cases rx
  cases ry
  obtain ⟨its, r1, p1, _⟩ := I.tuple ha
  obtain ⟨its2, r2, p2, _⟩ := I.tuple hb
  refine HT.cat_tup p1 p2 (fun z => hx (r1.nil_iff.mp z)) (fun z => ⟨.ref a, H, I, rfl, q1 (r2.nil_iff.mp z)⟩) (fun z => ?_) (by rw [← r1.length, ← r2.length]; exact hz)
  refine ⟨.ref s.heap.objs.size, _, I.laid (t' := s.toks) (o := .tup (xs ++ ys)) (fun b ob q => Heap.get?_push_of_some _ q) (Nat.le_refl _) ?_, rfl, q2 (fun w => z (r2.nil_iff.mpr w)) _ (I.hok.fresh (Nat.le_refl _))⟩
  exact ⟨by rw [List.length_append]; exact hz, _, r1.append r2, IsTup.new _ _⟩
end
end L2
namespace L2
open PySem PySem.Spec PyProof.Rows
def ixN (n : Nat) (i : Int) : Option Nat := if 0 ≤ i then (if i < n then some i.toNat else none) else if -(n : Int) ≤ i then some (i + n).toNat else none
def atI {α : Type} (xs : List α) (i : Int) : Option α := (ixN xs.length i).bind fun j => xs[j]?
theorem ixN_seq {n : Nat} {i : Int} {j : Nat} (h : ixN n i = some j) : seqIndex? i n = some j ∧ j < n ∧ -(n : Int) ≤ i ∧ i < n := by
  unfold ixN at h
  by_cases h0 : 0 ≤ i
  · rw [if_pos h0] at h
    by_cases h1 : i < n
    · rw [if_pos h1] at h
      have e : i.toNat = j := Option.some.inj h
      exact ⟨by rw [seqIndex_of h0 h1, e], by omega, by omega, h1⟩
    · rw [if_neg h1] at h; cases h
  · rw [if_neg h0] at h
    by_cases h1 : -(n : Int) ≤ i
    · rw [if_pos h1] at h
      have e : (i + n).toNat = j := Option.some.inj h
      exact ⟨by rw [seqIndex_neg (by omega) h1, e], by omega, h1, by omega⟩
    · rw [if_neg h1] at h; cases h
theorem atI_get {α : Type} {xs : List α} {i : Int} {v : α} (h : atI xs i = some v) : ∃ j, seqIndex? i xs.length = some j ∧ xs[j]? = some v ∧ j < xs.length ∧ -(xs.length : Int) ≤ i ∧ i < xs.length := by
  unfold atI at h
  cases e : ixN xs.length i with
  | none => rw [e] at h; cases h
  | some j =>
    rw [e] at h
    obtain ⟨h1, h2, h3, h4⟩ := ixN_seq e
    exact ⟨j, h1, h, h2, h3, h4⟩
theorem atI_nat {α : Type} {xs : List α} {j : Nat} {v : α} (h : xs[j]? = some v) : atI xs (j : Int) = some v := by
  have hj : j < xs.length := (List.getElem?_eq_some_iff.mp h).1
  have e : ixN xs.length (j : Int) = some j := by
    unfold ixN
    rw [if_pos (by omega), if_pos (by omega)]; simp
  unfold atI; rw [e]; exact h
theorem atI_last {α : Type} (xs : List α) (v : α) : atI (xs ++ [v]) (-1) = some v := by
  have hl : (xs ++ [v]).length = xs.length + 1 := by simp
  have e : ixN (xs ++ [v]).length (-1) = some xs.length := by
    unfold ixN
    rw [hl, if_neg (by decide), if_pos (by omega)]
    congr 1
    omega
  unfold atI
  rw [e]
  show (xs ++ [v])[xs.length]? = some v
  simp
def PlainIx (b : Expr) : Prop := ∀ o i, subscripted b false o i = operate [o, i] (getItem o i)
def IxR (X : Cx) (r : R2) : Prop :=
  ∀ (value slice : Expr) (pins : List (Addr × Obj)) (s : Shared) (σ : St) (H : Hp) (x y : V) (v u : Value) (Q : VK), Inv X pins σ H s → RelV x v → RelV y u → r x y H Q →
    subscripted slice false v u = operate [v, u] (getItem v u) → wpAny (model X.prog X.w) X.A (subscriptTail value slice v u) (EP X pins σ Q) X.xe s
def MtR (X : Cx) (id : String) (r : V → List V → Hp → VK → Prop) : Prop :=
  ∀ (pins : List (Addr × Obj)) (s : Shared) (σ : St) (H : Hp) (x : V) (xs : List V) (v : Value) (us : List Value) (Q : VK), Inv X pins σ H s → RelV x v → Vals xs us → r x xs H Q →
    wpAny (model X.prog X.w) X.A (call (.builtin id) (v :: us)) (EP X pins σ Q) X.xe s
section
variable {X : Cx} {a b : Expr} {ta tb : TE} {pos : Pos}
theorem IxR.or {r r' : R2} (h : IxR X r) (h' : IxR X r') : IxR X (fun x y H Q => r x y H Q ∨ r' x y H Q) := by
  intro value slice pins s σ H x y v u Q I rx ry q hs
  rcases q with q | q
  · exact h value slice pins s σ H x y v u Q I rx ry q hs
  · exact h' value slice pins s σ H x y v u Q I rx ry q hs
theorem MtR.or {id : String} {r r' : V → List V → Hp → VK → Prop} (h : MtR X id r) (h' : MtR X id r') : MtR X id (fun x xs H Q => r x xs H Q ∨ r' x xs H Q) := by
  intro pins s σ H x xs v us Q I rx rs q
  rcases q with q | q
  · exact h pins s σ H x xs v us Q I rx rs q
  · exact h' pins s σ H x xs v us Q I rx rs q
theorem pe_ix {r : R2} (hr : IxR X r) (ha : PE X a ta) (hb : PE X b tb) (hs : PlainIx b) : PE X (.Subscript a b pos) (tOp r ta tb) := by
  intro pins s σ H Q I h
  exact Subscript_ (binT ha hb I h fun v u s2 x y H2 I2 rx ry q => hr a b pins s2 σ H2 x y v u Q I2 rx ry q (hs _ _))
def rIxL (K : PySem.W.Frag) : R2 := fun x y H Q => ∃ p xs i v, x = .ref p ∧ y = .int i ∧ SqL K H p xs ∧ atI xs i = some v ∧ Q v H
def rIxT (K : PySem.W.Frag) : R2 := fun x y H Q => ∃ p xs i v, x = .ref p ∧ y = .int i ∧ SqT K H p xs ∧ atI xs i = some v ∧ Q v H
def rIxS : R2 := fun x y H Q => ∃ z i c, x = .str z ∧ y = .int i ∧ z.length ≤ sizeLine ∧ atI z.cps.toList i = some c ∧ Q (.str ⟨#[c]⟩) H
theorem ix_list : IxR X (rIxL X.K) := by
  intro value slice pins s σ H x y v u Q I rx ry h hs
  obtain ⟨p, xs, i, z, rfl, rfl, hq, he, q⟩ := h
  cases rx
  obtain ⟨t, rfl⟩ := ry
  obtain ⟨its, r, pl, hz⟩ := I.list hq
  obtain ⟨j, h1, h2, h3, h4, h5⟩ := atI_get he
  obtain ⟨w, ew, rw'⟩ := r.get h2
  have hl := r.length
  have hn := line63
  have fin : EP X pins σ Q w s := ⟨z, H, I, rw', q⟩
  by_cases h0 : 0 ≤ i
  · have hj : i.toNat = j := by
      rw [seqIndex_of h0 h5] at h1
      exact Option.some.inj h1
    exact item_listR pl.isList h0 (by omega) (by rw [hj]; simpa using ew) fin hs
  · have hj : (i + (its.toArray.size : Int)).toNat = j := by
      rw [seqIndex_neg (by omega) h4] at h1
      rw [List.size_toArray, ← hl]
      exact Option.some.inj h1
    exact subscriptTail_builtinR (x := w) pl.isList.typeIs slot_list_getitem.lookup
      (wpAny_getItem_list_neg (Q := fun r s' => r = w ∧ EP X pins σ Q r s') pl.isList (by omega) (by rw [List.size_toArray] <;> omega) (by omega) (by rw [hj]; simpa using ew) ⟨rfl, fin⟩) hs
theorem ix_tup : IxR X (rIxT X.K) := by
  intro value slice pins s σ H x y v u Q I rx ry h hs
  obtain ⟨p, xs, i, z, rfl, rfl, hq, he, q⟩ := h
  cases rx
  obtain ⟨t, rfl⟩ := ry
  obtain ⟨its, r, pl, hz⟩ := I.tuple hq
  obtain ⟨j, h1, h2, h3, h4, h5⟩ := atI_get he
  obtain ⟨w, ew, rw'⟩ := r.get h2
  have hl := r.length
  have hn := line63
  have fin : EP X pins σ Q w s := ⟨z, H, I, rw', q⟩
  exact subscriptTail_builtinR (x := w) pl.typeIs slot_tuple_getitem.lookup
    (getItem_tuple (j := j) (Q := fun r s' => r = w ∧ EP X pins σ Q r s') pl (by omega) (by omega) (by rw [List.size_toArray, ← hl]; exact h1) (by simpa using ew) ⟨rfl, fin⟩) hs
theorem ix_str : IxR X rIxS := by
  intro value slice pins s σ H x y v u Q I rx ry h hs
  obtain ⟨z, i, c, rfl, rfl, hz, he, q⟩ := h
  obtain ⟨t, rfl⟩ := rx
  obtain ⟨t', rfl⟩ := ry
  obtain ⟨j, h1, h2, h3, h4, h5⟩ := atI_get he
  have hl : z.cps.toList.length = z.length := by simp [Str.length]
  rw [hl] at h1 h4 h5
  have hn := line63
  exact tail_any (typeIs_str s z t) slot_str_getitem.lookup (getItem_str (c := c) (by
    have e1 : decide (i < -(2 ^ 63 : Int)) = false := decide_eq_false (by omega)
    have e2 : decide (i ≥ 2 ^ 63) = false := decide_eq_false (by omega)
    rw [e1, e2, Bool.or_false]) (by rw [h1]; simpa using h2) ⟨.str ⟨#[c]⟩, H, I.tok _, ⟨_, rfl⟩, q⟩) hs
theorem mapSeq_set (its : List Value) (n j : Nat) (u : Value) : Obj.mapSeq (·.setIfInBounds j u) { cls := .type "list", data := .seq its.toArray n } = { cls := .type "list", data := .seq (its.set j u).toArray n } := by
  simp [Obj.mapSeq]
theorem Inv.lst {pins : List (Addr × Obj)} {σ : St} {H : Hp} {s : Shared} {p : Addr} {xs : List V} (I : Inv X pins σ H s) (h : H p = some (.lst xs)) :
    ∃ (its : List Value) (n : Nat), Vals xs its ∧ s.heap.get? p = some { cls := .type "list", data := .seq its.toArray n } ∧ xs.length ≤ sizeLine := by
  obtain ⟨z, its, n, r, e⟩ := I.hok p _ h
  exact ⟨its, n, r, e, z⟩
theorem Inv.lstUpd {pins : List (Addr × Obj)} {σ : St} {H : Hp} {s : Shared} {p : Addr} {xs ys : List V} {its its' : List Value} {n n' : Nat} {f : Obj → Obj} (I : Inv X pins σ H s) (h : H p = some (.lst xs))
    (ho : s.heap.get? p = some { cls := .type "list", data := .seq its.toArray n }) (hf : f { cls := .type "list", data := .seq its.toArray n } = { cls := .type "list", data := .seq its'.toArray n' }) (r : Vals ys its') (hz : ys.length ≤ sizeLine) (t : Nat) :
    Inv X pins σ (upd H p (.lst ys)) { s with heap := s.heap.update p f, toks := t } := by
  have e : (s.heap.update p f).get? p = some { cls := .type "list", data := .seq its'.toArray n' } := by
    rw [Heap.get?_update_self f ho (by rw [hf] <;> rfl), hf]
  refine I.write (x := p) (e := p) (by rw [h]; trivial) (.inl rfl) (fun b u hb q => (Heap.get?_update_other _ _ (Ne.symm hb)).trans q) ⟨_, e⟩ ?_
  exact ⟨hz, its', n', r, e⟩
def rSetL : V → V → V → Hp → (Hp → Prop) → Prop := fun o i v H Q => ∃ p xs k j, o = .ref p ∧ i = .int k ∧ H p = some (.lst xs) ∧ ixN xs.length k = some j ∧ Q (upd H p (.lst (xs.set j v)))
theorem set_list : PSet X rSetL := by
  intro pins s σ H o i v ov iv u Q I ro ri rv h
  obtain ⟨p, xs, k, j, rfl, rfl, hp, hj, q⟩ := h
  cases ro
  obtain ⟨t, rfl⟩ := ri
  obtain ⟨its, n, r, ho, hz⟩ := I.lst hp
  obtain ⟨h1, h2, h3, h4⟩ := ixN_seq hj
  have hl := r.length
  have hn := line63
  have I' : Inv X pins σ (upd H p (.lst (xs.set j v))) { s with heap := s.heap.update p (Obj.mapSeq (·.setIfInBounds j u)) } :=
    I.lstUpd hp ho (mapSeq_set its n j u) (r.set rv j) (by rw [List.length_set]; exact hz) s.toks
  by_cases h0 : 0 ≤ k
  · have hk : k.toNat = j := by
      rw [seqIndex_of h0 h4] at h1
      exact Option.some.inj h1
    exact PySem.W.ki_setAt ho h0 (by omega) (by rw [List.size_toArray, ← hl]; exact h4) (by rw [hk]; exact ⟨_, I', q⟩)
  · have hk : (k + (its.toArray.size : Int)).toNat = j := by
      rw [seqIndex_neg (by omega) h3] at h1
      rw [List.size_toArray, ← hl]
      exact Option.some.inj h1
    exact PySem.W.ki_setBack ho (by omega) (by rw [List.size_toArray, ← hl]; exact h3) (by omega) (by rw [hk]; exact ⟨_, I', q⟩)
theorem slice_bounds (lo hi : Option Int) (n : Nat) : (sliceBounds lo hi none n).1 = ((HT.sIx n 0 lo : Nat) : Int) ∧ (sliceBounds lo hi none n).2.1 = ((HT.sIx n n hi : Nat) : Int) ∧ (sliceBounds lo hi none n).2.2 = 1 := by
  refine ⟨?_, ?_, rfl⟩
  · cases lo with
    | none => simp [sliceBounds, HT.sIx]
    | some i =>
      simp only [sliceBounds, HT.sIx, Option.getD_none, show (1 : Int) > 0 by decide, if_true]
      by_cases h : i < 0
      · simp only [h, if_true] <;> omega
      · simp only [h, if_false] <;> omega
  · cases hi with
    | none => simp [sliceBounds, HT.sIx]
    | some i =>
      simp only [sliceBounds, HT.sIx, Option.getD_none, show (1 : Int) > 0 by decide, if_true]
      by_cases h : i < 0
      · simp only [h, if_true] <;> omega
      · simp only [h, if_false] <;> omega
theorem slicePick_cut (its : List Value) (lo hi : Option Int) : slicePick its.toArray lo hi none = ((its.drop (HT.sIx its.length 0 lo)).take (HT.sIx its.length its.length hi - HT.sIx its.length 0 lo)).toArray := by
  obtain ⟨h1, h2, h3⟩ := slice_bounds lo hi its.toArray.size
  unfold slicePick
  rw [h1, h2, h3]
  simp only [sliceRange_one, pick_run, List.size_toArray] <;> rfl
def rSlL (K : PySem.W.Frag) : V → Option Int → Option Int → Hp → VK → Prop := fun x lo hi H Q => ∃ a xs, x = .ref a ∧ SqL K H a xs ∧ ∀ p, H p = none → Q (.ref p) (upd H p (.lst (cutV xs lo hi)))
theorem sl_list : SlR X (rSlL X.K) := by
  intro pins s σ H x v vl vu lo hi sl Q I rx hs pl pu h
  obtain ⟨a, xs, rfl, hx, q⟩ := h
  cases rx
  obtain ⟨its, r, ht, hz⟩ := I.list hx
  have hlen := r.length
  refine ⟨"list", _, slot_list_getitem.lookup, ht.isList.typeIs, ?_⟩
  refine wpAny_getItem_list_slice ht.isList hs pl pu .none (by simp) ?_ (by rw [List.size_toArray] <;> omega)
  rw [slicePick_cut, ← hlen]
  refine ⟨.ref s.heap.objs.size, _, I.laid (t' := s.toks) (o := .lst (cutV xs lo hi)) (fun b ob q => Heap.get?_push_of_some _ q) (Nat.le_refl _) ?_, rfl, q _ (I.hok.fresh (Nat.le_refl _))⟩
  exact ⟨Nat.le_trans (cutV_length xs lo hi) hz, _, 0, (r.drop (HT.sIx xs.length 0 lo)).take (HT.sIx xs.length xs.length hi - HT.sIx xs.length 0 lo), Heap.get?_push_size _ rfl⟩
def flatV : V → Bool
  | .non => true
  | .bl _ => true
  | .int _ => true
  | .str _ => true
  | _ => false
def eqV : V → V → Bool
  | .non, .non => true
  | .bl a, .bl b => a == b
  | .bl a, .int b => (if a then 1 else 0) == b
  | .int a, .bl b => a == (if b then 1 else 0)
  | .int a, .int b => a == b
  | .str a, .str b => a == b
  | _, _ => false
theorem eqAt_V {A : Around} {s : Shared} {y x : V} {u v : Value} (ry : RelV y u) (rx : RelV x v) (fy : flatV y = true) (fx : flatV x = true) : SeqAt.EqAt A s u v (eqV y x) := by
  cases y with
  | non =>
    cases ry
    cases x with
    | non => cases rx; exact SeqAt.EqAt.same _
    | bl b => cases rx; exact SeqAt.EqAt.none_bool b
    | int b => obtain ⟨t, rfl⟩ := rx; exact SeqAt.EqAt.none_int b t
    | str b => obtain ⟨t, rfl⟩ := rx; exact SeqAt.EqAt.none_str b t
    | _ => exact absurd (show false = true from fx) Bool.false_ne_true
  | bl a =>
    cases ry
    cases x with
    | non => cases rx; exact SeqAt.EqAt.bool_none a
    | bl b => cases rx; exact SeqAt.EqAt.bool_bool a b
    | int b => obtain ⟨t, rfl⟩ := rx; exact SeqAt.EqAt.bool_int a b t
    | str b => obtain ⟨t, rfl⟩ := rx; exact SeqAt.EqAt.bool_str a b t
    | _ => exact absurd (show false = true from fx) Bool.false_ne_true
  | int a =>
    obtain ⟨t', rfl⟩ := ry
    cases x with
    | non => cases rx; exact SeqAt.EqAt.int_none a t'
    | bl b => cases rx; exact SeqAt.EqAt.int_bool a t' b
    | int b => obtain ⟨t, rfl⟩ := rx; exact SeqAt.EqAt.int_int a t' b t
    | str b => obtain ⟨t, rfl⟩ := rx; exact SeqAt.EqAt.int_str a t' b t
    | _ => exact absurd (show false = true from fx) Bool.false_ne_true
  | str a =>
    obtain ⟨t', rfl⟩ := ry
    cases x with
    | non => cases rx; exact SeqAt.EqAt.str_none a t'
    | bl b => cases rx; exact SeqAt.EqAt.str_bool a t' b
    | int b => obtain ⟨t, rfl⟩ := rx; exact SeqAt.EqAt.str_int a t' b t
    | str b => obtain ⟨t, rfl⟩ := rx; exact SeqAt.EqAt.str_str a t' b t
    | _ => exact absurd (show false = true from fx) Bool.false_ne_true
  | _ => exact absurd (show false = true from fy) Bool.false_ne_true
def eqU (x : V) (u : Value) : Bool := match u with
  | .none => eqV .non x
  | .bool b => eqV (.bl b) x
  | .int i _ => eqV (.int i) x
  | .str z _ => eqV (.str z) x
  | _ => false
theorem eqU_of {x y : V} {u : Value} (r : RelV y u) (f : flatV y = true) : eqU x u = eqV y x := by
  cases y with
  | non => cases r; rfl
  | bl b => cases r; rfl
  | int i => obtain ⟨t, rfl⟩ := r; rfl
  | str z => obtain ⟨t, rfl⟩ := r; rfl
  | _ => exact absurd (show false = true from f) Bool.false_ne_true
theorem any_eqU {x : V} : ∀ {xs : List V} {us : List Value}, Vals xs us → xs.all flatV = true → us.any (eqU x) = xs.any fun y => eqV y x
  | _, _, .nil, _ => rfl
  | y :: xs, u :: us, .cons r t, f => by
    rw [List.all_cons, Bool.and_eq_true] at f
    rw [List.any_cons, List.any_cons, eqU_of r f.1, any_eqU t f.2]
theorem mem_eqAt {A : Around} {s : Shared} {x : V} {v : Value} (rx : RelV x v) (fx : flatV x = true) : ∀ {xs : List V} {us : List Value}, Vals xs us → xs.all flatV = true → ∀ u ∈ us, SeqAt.EqAt A s u v (eqU x u)
  | _, _, .nil, _ => fun u hu => by cases hu
  | y :: xs, u :: us, .cons r t, f => fun u' hu => by
    rw [List.all_cons, Bool.and_eq_true] at f
    rcases List.mem_cons.mp hu with rfl | hu
    · rw [eqU_of r f.1]; exact eqAt_V r rx f.1 fx
    · exact mem_eqAt rx fx t f.2 u' hu
def inV (x : V) (xs : List V) : Bool := xs.any fun y => eqV y x
def rIn (K : PySem.W.Frag) (neg : Bool) : R2 := fun x y H Q => ∃ p xs, y = .ref p ∧ (SqL K H p xs ∨ SqT K H p xs) ∧ flatV x = true ∧ xs.all flatV = true ∧ Q (.bl (if neg then !inV x xs else inV x xs)) H
theorem op_notIn_seq : OpR X (compareOp .NotIn) (rIn X.K true) := by
  intro pins s σ H x y v u Q I rx ry h
  obtain ⟨p, xs, rfl, hq, fx, fs, q⟩ := h
  cases ry
  rcases hq with hq | hq
  · obtain ⟨its, r, pl, hz⟩ := I.list hq
    refine SeqAt.notIn_listAt (eqU x) pl.isList (fun w hw => mem_eqAt rx fx r fs w (by simpa using hw)) ⟨.bl _, H, I, rfl, ?_⟩
    rw [show its.toArray.any (eqU x) = its.any (eqU x) by simp, any_eqU r fs]
    exact q
  · obtain ⟨its, r, pl, hz⟩ := I.tuple hq
    refine SeqAt.notIn_tupleAt (eqU x) pl (fun w hw => mem_eqAt rx fx r fs w (by simpa using hw)) ⟨.bl _, H, I, rfl, ?_⟩
    rw [show its.toArray.any (eqU x) = its.any (eqU x) by simp, any_eqU r fs]
    exact q
theorem call_len_seq : CallR X (.builtin "len") (fun xs H Q => ∃ p ys, xs = [.ref p] ∧ (SqL X.K H p ys ∨ SqT X.K H p ys) ∧ Q (.int ys.length) H) := by
  intro pins s σ H xs us Q I r h
  obtain ⟨p, ys, rfl, hq, q⟩ := h
  obtain ⟨u, rfl, rx⟩ := vals1 r
  cases rx
  have hn := line63
  rcases hq with hq | hq
  · obtain ⟨its, r', pl, hz⟩ := I.list hq
    have hlen := r'.length
    exact Calls.call_len_list pl.isList (by simp only [List.size_toArray] <;> omega) ⟨.int ys.length, H, I.tok _, ⟨s.toks + 1, by rw [List.size_toArray, hlen]⟩, q⟩
  · obtain ⟨its, r', pl, hz⟩ := I.tuple hq
    have hlen := r'.length
    exact len_tuple pl (by simp only [List.size_toArray] <;> omega) ⟨.int ys.length, H, I.tok _, ⟨s.toks + 1, by rw [List.size_toArray, hlen]⟩, q⟩
theorem call_len_str : CallR X (.builtin "len") (fun xs H Q => ∃ z, xs = [.str z] ∧ z.length ≤ sizeLine ∧ Q (.int z.length) H) := by
  intro pins s σ H xs us Q I r h
  obtain ⟨z, rfl, hz, q⟩ := h
  obtain ⟨u, rfl, t, rfl⟩ := vals1 r
  have hn := line63
  exact len_str (by omega) ⟨.int z.length, H, I.tok _, ⟨_, rfl⟩, q⟩
theorem CallR.or {f : Value} {r r' : List V → Hp → VK → Prop} (h : CallR X f r) (h' : CallR X f r') : CallR X f (fun xs H Q => r xs H Q ∨ r' xs H Q) := by
  intro pins s σ H xs us Q I rs q
  rcases q with q | q
  · exact h pins s σ H xs us Q I rs q
  · exact h' pins s σ H xs us Q I rs q
theorem call_list_of : CallR X (.type "list") (fun xs H Q => ∃ p ys, xs = [.ref p] ∧ (SqL X.K H p ys ∨ SqT X.K H p ys) ∧ ∀ l, H l = none → Q (.ref l) (upd H l (.lst ys))) := by
  intro pins s σ H xs us Q I r h
  obtain ⟨p, ys, rfl, hq, q⟩ := h
  obtain ⟨u, rfl, rx⟩ := vals1 r
  cases rx
  have fin : ∀ (its : List Value), Vals ys its → ys.length ≤ sizeLine → ∀ (h' : Heap) (c' : Nat), (∀ b o', s.heap.get? b = some o' → h'.get? b = some o') →
      h'.get? s.heap.objs.size = some { cls := .type "list", dict := none, data := .seq its.toArray c', slots := #[] } → EP X pins σ Q (.ref s.heap.objs.size) { s with heap := h' } := fun its r' hz h' c' kp e =>
    ⟨.ref s.heap.objs.size, _, I.laid (t' := s.toks) kp (Nat.le_refl _) (show ObjOk X.prog X.w _ h' _ (.lst ys) from ⟨hz, its, c', r', e⟩), rfl, q _ (I.hok.fresh (Nat.le_refl _))⟩
  rcases hq with hq | hq
  · obtain ⟨its, r', pl, hz⟩ := I.list hq
    have hlen := r'.length
    obtain ⟨o, ho, hc, n, hd⟩ := pl.isList
    exact call_list_seq p (.inl rfl) ho hc hd (fun h' c' kp e => fin its r' hz h' c' kp e) (by simp only [List.size_toArray] <;> omega)
  · obtain ⟨its, r', pl, hz⟩ := I.tuple hq
    have hlen := r'.length
    obtain ⟨o, ho, hc, n, hd⟩ := pl
    exact call_list_seq p (.inr rfl) ho hc hd (fun h' c' kp e => fin its r' hz h' c' kp e) (by simp only [List.size_toArray] <;> omega)
theorem call_tuple_of : CallR X (.type "tuple") (fun xs H Q => ∃ p ys, xs = [.ref p] ∧ ((SqL X.K H p ys ∧ ∀ l, H l = none → Q (.ref l) (upd H l (.tup ys))) ∨ (SqT X.K H p ys ∧ Q (.ref p) H))) := by
  intro pins s σ H xs us Q I r h
  obtain ⟨p, ys, rfl, h⟩ := h
  obtain ⟨u, rfl, rx⟩ := vals1 r
  cases rx
  rcases h with ⟨hq, q⟩ | ⟨hq, q⟩
  · obtain ⟨its, r', pl, hz⟩ := I.list hq
    have hlen := r'.length
    refine call_tuple_list pl.isList (fun h' kp => ?_) (by simp only [List.size_toArray] <;> omega)
    have I1 : Inv X pins σ H { s with heap := h' } := I.kept (t' := s.toks) kp
    have I2 : Inv X pins σ (upd H h'.objs.size (.tup ys)) { s with heap := h'.push { cls := .type "tuple", data := .seq its.toArray } } :=
      I1.laid (t' := s.toks) (fun b o e => Heap.get?_push_of_some _ e) (Nat.le_refl _) (show ObjOk X.prog X.w _ _ _ (.tup ys) from ⟨hz, its, r', IsTup.new _ _⟩)
    exact ⟨.ref h'.objs.size, _, I2, rfl, q _ (I1.hok.fresh (Nat.le_refl _))⟩
  · obtain ⟨its, r', pl, hz⟩ := I.tuple hq
    exact call_tuple_same pl ⟨.ref p, H, I, rfl, q⟩
def tyV (K : PySem.W.Frag) (T : String) (x : V) (H : Hp) : Prop := match x with
  | .str _ => T = "str"
  | .int _ => T = "int"
  | .ref p => (T = "list" ∧ ∃ xs, SqL K H p xs) ∨ (T = "tuple" ∧ ∃ o, K.lookup p = some o ∧ o.cls = .type "tuple" ∧ o.dict = none) ∨
      (T = "dict" ∧ ((∃ kvs, H p = some (.dK kvs)) ∨ ∃ kvs, H p = some (.dT kvs))) ∨ (T = "set" ∧ ∃ S n, H p = some (.set S n))
  | _ => False
theorem tyV_is {pins : List (Addr × Obj)} {σ : St} {H : Hp} {s : Shared} {T : String} {x : V} {v : Value} (I : Inv X pins σ H s) (r : RelV x v) (ty : tyV X.K T x H) :
    s.TypeIs v T ∧ ∀ a, v = .ref a → ∃ ob, s.heap.get? a = some ob ∧ ob.dict = none := by
  cases x with
  | str z =>
    obtain ⟨t, rfl⟩ := r
    cases (show T = "str" from ty)
    exact ⟨typeIs_str s z t, fun _ e => nomatch e⟩
  | int i =>
    obtain ⟨t, rfl⟩ := r
    cases (show T = "int" from ty)
    exact ⟨typeIs_int s i t, fun _ e => nomatch e⟩
  | ref p =>
    cases r
    rcases ty with ⟨rfl, xs, hq⟩ | ⟨rfl, o, hk, hc, hd⟩ | ⟨rfl, hk⟩ | ⟨rfl, S, n, hk⟩
    · obtain ⟨its, _, pl, _⟩ := I.list hq
      refine ⟨pl.isList.typeIs, fun a e => ?_⟩
      cases e
      obtain ⟨o, n, e, c, hd, _⟩ := pl
      exact ⟨o, e, hd⟩
    · refine ⟨⟨o, I.kIn p o hk, hc⟩, fun a e => ?_⟩
      cases e
      exact ⟨o, I.kIn _ o hk, hd⟩
    · have z : ∃ o, s.heap.get? p = some o ∧ o.ExactDict := by
        rcases hk with ⟨kvs, hk⟩ | ⟨kvs, hk⟩
        · obtain ⟨_, _, _, _, o, _, _, e, ex, _⟩ := I.hok p _ hk
          exact ⟨o, e, ex⟩
        · obtain ⟨_, _, _, _, o, _, _, e, ex, _⟩ := I.hok p _ hk
          exact ⟨o, e, ex⟩
      obtain ⟨o, e, ex⟩ := z
      refine ⟨⟨o, e, ex.1⟩, fun a e2 => ?_⟩
      cases e2
      exact ⟨o, e, ex.2.1⟩
    · obtain ⟨o, _, _, _, e, ex, _⟩ := I.hok p _ hk
      refine ⟨⟨o, e, ex.1⟩, fun a e2 => ?_⟩
      cases e2
      exact ⟨o, e, ex.2.1⟩
  | _ => exact False.elim ty
def tBM0 (K : PySem.W.Frag) (T : String) (r : V → List V → Hp → VK → Prop) (to : TE) : TE := fun σ H Q => to σ H fun x H1 => tyV K T x H1 ∧ r x [] H1 Q
def tBM (K : PySem.W.Frag) (T : String) (r : V → List V → Hp → VK → Prop) (to : TE) (t : TA) : TE := fun σ H Q => to σ H fun x H1 => tyV K T x H1 ∧ t σ H1 fun xs H2 => r x xs H2 Q
variable {o e : Expr} {es : List Expr} {to : TE} {t : TA} {name : Str} {apos cpos : Pos} {T id : String} {r : V → List V → Hp → VK → Prop}
theorem pe_bm0 (pa : PlainAttrs T) (slot : Slot T name id) (hty : typeOf (.builtin id) = pure (.type "method_descriptor")) (hm : MtR X id r) (ho : PE X o to)
    (hbase : attributeBase o name X.env (eval o X.env) = eval o X.env := by rfl) (hline : (apos.endLine == cpos.line) = true := by rfl) : PE X (.Call (.Attribute o name apos) [] [] cpos) (tBM0 X.K T r to) := by
  intro pins s σ H Q I h
  refine wpAny_Call_method0_late hbase hline (thn (ho pins s σ H _ I h) fun v s1 ⟨x, H1, I1, r1, ty, q1⟩ => ?_)
  obtain ⟨h1, h2⟩ := tyV_is I1 r1 ty
  exact ⟨T, id, pa, slot, hty, h1, h2, Calls.callWith_builtin rfl (PySem.evalArgs_none (hm pins s1 σ H1 x [] v [] Q I1 r1 .nil q1))⟩
theorem pe_bm (pa : PlainAttrs T) (slot : Slot T name id) (hty : typeOf (.builtin id) = pure (.type "method_descriptor")) (hm : MtR X id r) (ho : PE X o to) (ha : PA X (e :: es) t)
    (hbase : attributeBase o name X.env (eval o X.env) = eval o X.env := by rfl)
    (hfew : ((backTo cpos (starEach (e :: es) X.env)).all (fun x => !x.1) && (backToKw cpos (keywordEach [] X.env)).all (fun x => x.1.isSome)
      && decide ((e :: es).length + ([] : List Keyword).length + (if ([] : List Keyword).isEmpty then 0 else 1) < 30)) = true := by rfl)
    (hline : (apos.endLine == cpos.line) = true := by rfl) (hs : starEach (e :: es) X.env = (false, eval e X.env) :: starEach es X.env := by rfl) (hplain : (backTo cpos (starEach es X.env)).any (·.1) = false := by rfl) :
    PE X (.Call (.Attribute o name apos) (e :: es) [] cpos) (tBM X.K T r to t) := by
  intro pins s σ H Q I h
  refine wpAny_Call_method_late hbase hfew hline rfl (thn (ho pins s σ H _ I h) fun v s1 ⟨x, H1, I1, r1, ty, q1⟩ => ?_)
  obtain ⟨h1, h2⟩ := tyV_is I1 r1 ty
  refine ⟨T, id, pa, slot, hty, h1, h2, ?_⟩
  have hA := ha cpos pins s1 σ H1 _ I1 q1
  rw [hs] at hA ⊢
  refine Calls.callWith_builtin (by show (false || (backTo cpos (starEach es X.env)).any (·.1)) = false; rw [hplain] <;> rfl) (Calls.evalArgs_plain ?_)
  exact thn hA fun us s2 ⟨vs, H2, I2, r2, q2⟩ => hm pins s2 σ H2 x vs v us Q I2 r1 r2 q2
/- xs.append(e), list.index on a module's tuple .. are MtR facts of 06m -/
end
end L2
namespace L2
open PySem PySem.Spec PyProof.Rows
def MtM (X : Cx) (id : String) (r : V → List V → Hp → VK → Prop) : Prop :=
  ∀ (pins : List (Addr × Obj)) (s : Shared) (σ : St) (H : Hp) (x : V) (xs : List V) (v : Value) (us : List Value) (Q : VK), Inv X pins σ H s → RelV x v → Vals xs us → r x xs H Q →
    wpAny (model X.prog X.w) X.A (call (.builtin id) (v :: us)) (EP X pins σ Q) X.xe s
theorem Vals.one : ∀ {x : V} {us : List Value}, Vals [x] us → ∃ u, us = [u] ∧ RelV x u
  | _, _, .cons r .nil => ⟨_, rfl, r⟩
theorem Vals.zero : ∀ {us : List Value}, Vals [] us → us = []
  | _, .nil => rfl
theorem Vals.dropLast {xs : List V} {us : List Value} (h : Vals xs us) : Vals xs.dropLast us.dropLast := by
  induction h with
  | nil => exact .nil
  | cons r t ih =>
    cases t with
    | nil => exact .nil
    | cons q t' => exact .cons r ih
theorem Vals.eraseIdx : ∀ {xs : List V} {us : List Value} (i : Nat), Vals xs us → Vals (xs.eraseIdx i) (us.eraseIdx i)
  | _, _, _, .nil => .nil
  | _, _, 0, .cons _ t => t
  | _, _, i + 1, .cons r t => .cons r (Vals.eraseIdx i t)
theorem Vals.reverse {xs : List V} {us : List Value} (h : Vals xs us) : Vals xs.reverse us.reverse := by
  induction h with
  | nil => exact .nil
  | cons r t ih => rw [List.reverse_cons, List.reverse_cons]; exact Vals.append ih (.cons r .nil)
theorem erase_last {α : Type} (l : List α) : l.eraseIdx (l.length - 1) = l.dropLast := by
  induction l with
  | nil => rfl
  | cons a r ih =>
    cases r with
    | nil => rfl
    | cons b r =>
      have e : (a :: b :: r).length - 1 = ((b :: r).length - 1) + 1 := by
        have h1 : (a :: b :: r).length = r.length + 2 := rfl
        have h2 : (b :: r).length = r.length + 1 := rfl
        omega
      rw [e, List.eraseIdx_cons_succ, ih]
      all_goals rfl
theorem len_erase {α : Type} : ∀ (l : List α) (i : Nat), (l.eraseIdx i).length ≤ l.length
  | [], _ => Nat.le_refl _
  | _ :: _, 0 => Nat.le_succ _
  | _ :: r, i + 1 => Nat.succ_le_succ (len_erase r i)
section
variable {X : Cx} {pins : List (Addr × Obj)} {σ : St} {H : Hp} {s : Shared} {l b : Addr} {xs ys zs : List V}
theorem Inv.lset {its its' : List Value} {n : Nat} {f : Array Value → Array Value} {t' : Nat} (I : Inv X pins σ H s) (hH : H l = some (.lst xs))
    (e : s.heap.get? l = some { cls := .type "list", data := .seq its.toArray n }) (hf : f its.toArray = its'.toArray) (hv : Vals ys its') (hz : ys.length ≤ sizeLine) :
    Inv X pins σ (upd H l (.lst ys)) { s with heap := s.heap.update l (Obj.mapSeq f), toks := t' } := by
  have q := PySem.IsL.update e f
  rw [hf] at q
  refine I.write (x := l) (e := l) (by rw [hH]; exact trivial) (.inl rfl) (fun b' u hb hu => (Heap.get?_update_other s.heap (Obj.mapSeq f) (Ne.symm hb)).trans hu) ⟨_, q⟩ ?_
  exact ⟨hz, its', _, hv, q⟩
theorem Inv.lnew {its : List Value} {t' : Nat} (I : Inv X pins σ H s) (hv : Vals ys its) (hz : ys.length ≤ sizeLine) :
    Inv X pins σ (upd H s.heap.objs.size (.lst ys)) { s with heap := s.heap.push { cls := .type "list", data := .seq its.toArray }, toks := t' } :=
  I.laid (fun _ _ q => Heap.get?_push_of_some _ q) (Nat.le_refl _) ⟨hz, its, 0, hv, Heap.get?_push_size _ rfl⟩
theorem Inv.fresh (I : Inv X pins σ H s) : H s.heap.objs.size = none := I.hok.fresh (Nat.le_refl _)
theorem Inv.lstM (I : Inv X pins σ H s) (hH : H l = some (.lst xs)) : xs.length ≤ sizeLine ∧ ∃ (its : List Value) (n : Nat), Vals xs its ∧ xs.length = its.length ∧ s.heap.get? l = some { cls := .type "list", data := .seq its.toArray n } := by
  obtain ⟨z, its, n, r, e⟩ := I.hok l _ hH
  exact ⟨z, its, n, r, r.length, e⟩
theorem notLongL {n : Nat} (h : n ≤ sizeLine) : Builtin.List.listTooLong n = false := by
  unfold Builtin.List.listTooLong
  exact decide_eq_false (by omega)
end
section
variable {X : Cx}
def rAppend : V → List V → Hp → VK → Prop := fun x vs H Q => ∃ l xs y, x = .ref l ∧ vs = [y] ∧ H l = some (.lst xs) ∧ xs.length < sizeLine ∧ Q .non (upd H l (.lst (xs ++ [y])))
theorem mt_append : MtM X "list.append" rAppend := by
  intro pins s σ H x vs v us Q I rx rv h
  obtain ⟨l, xs, y, rfl, rfl, hH, hz, q⟩ := h
  cases rx
  obtain ⟨u, rfl, ru⟩ := rv.one
  obtain ⟨z, its, n, r, hl, e⟩ := I.lstM hH
  refine call_meets F.slot_list_append ⟨_, e, rfl⟩ F.entry_list_append (F.args_list_append_2 _ _) (PySem.list_append l its.toArray n u (by rw [List.size_toArray]; omega)) ⟨e, ?_⟩
  refine ⟨.non, _, I.lset (its' := its ++ [u]) hH e (by simp) (r.append (.cons ru .nil)) ?_, rfl, q⟩
  rw [List.length_append, List.length_singleton]
  omega
def rExtend : V → List V → Hp → VK → Prop := fun x vs H Q => ∃ l b xs zs, x = .ref l ∧ vs = [.ref b] ∧ H l = some (.lst xs) ∧ H b = some (.lst zs) ∧ xs.length + zs.length ≤ sizeLine ∧ Q .non (upd H l (.lst (xs ++ zs)))
theorem mt_extend : MtM X "list.extend" rExtend := by
  intro pins s σ H x vs v us Q I rx rv h
  obtain ⟨l, b, xs, zs, rfl, rfl, hH, hB, hz, q⟩ := h
  cases rx
  obtain ⟨u, rfl, ru⟩ := rv.one
  cases ru
  obtain ⟨z, its, n, r, hl, e⟩ := I.lstM hH
  obtain ⟨z2, its2, n2, r2, hl2, e2⟩ := I.lstM hB
  have hsz : its.toArray.size + its2.toArray.size ≤ sizeLine := by rw [List.size_toArray, List.size_toArray]; omega
  have hlong : ¬ (!its.toArray.isEmpty && Builtin.List.listTooLong (its.toArray.size + its2.toArray.size)) = true := by
    rw [notLongL hsz, Bool.and_false]
    exact Bool.false_ne_true
  refine call_meets F.slot_list_extend ⟨_, e, rfl⟩ F.entry_list_extend (F.args_list_extend_2 _ _)
    (AutoSeq1.list_extend_list_list_0 l its.toArray n b its2.toArray n2 hlong (by rw [List.size_toArray]; omega) (by omega)) ⟨e, e2, ?_⟩
  refine ⟨.non, _, I.lset (its' := its ++ its2) hH e (by simp) (r.append r2) ?_, rfl, q⟩
  rw [List.length_append]
  omega
def rPop : V → List V → Hp → VK → Prop := fun x vs H Q => ∃ l xs y, x = .ref l ∧ vs = [] ∧ H l = some (.lst xs) ∧ xs[xs.length - 1]? = some y ∧ Q y (upd H l (.lst xs.dropLast))
theorem mt_pop : MtM X "list.pop" rPop := by
  intro pins s σ H x vs v us Q I rx rv h
  obtain ⟨l, xs, y, rfl, rfl, hH, hy, q⟩ := h
  cases rx
  have hus := rv.zero
  subst hus
  obtain ⟨z, its, n, r, hl, e⟩ := I.lstM hH
  obtain ⟨u, hu, ru⟩ := r.get hy
  have hy' : its.toArray[its.toArray.size - 1]? = some u := by
    show its.toArray[its.length - 1]? = some u
    rw [← Array.getElem?_toList, ← hl]
    exact hu
  refine call_meets F.slot_list_pop ⟨_, e, rfl⟩ F.entry_list_pop (F.args_list_pop_1 _) (MeetsSeq.list_pop_last l its.toArray n u hy' (by rw [List.size_toArray]; omega)) ⟨e, ?_⟩
  refine ⟨y, _, I.lset (its' := its.dropLast) hH e ?_ r.dropLast ?_, ru, q⟩
  · show its.toArray.eraseIdxIfInBounds (its.toArray.size - 1) = its.dropLast.toArray
    rw [List.size_toArray, List.eraseIdxIfInBounds_toArray, erase_last]
  · rw [List.length_dropLast]
    omega
def rPopAt : V → List V → Hp → VK → Prop := fun x vs H Q => ∃ l xs i k y, x = .ref l ∧ vs = [.int i] ∧ H l = some (.lst xs) ∧ -(2 ^ 63) ≤ i ∧ i < 2 ^ 63 ∧ seqIndex? i xs.length = some k ∧ xs[k]? = some y ∧ Q y (upd H l (.lst (xs.eraseIdx k)))
theorem mt_popAt : MtM X "list.pop" rPopAt := by
  intro pins s σ H x vs v us Q I rx rv h
  obtain ⟨l, xs, i, k, y, rfl, rfl, hH, h1, h2, hk, hy, q⟩ := h
  cases rx
  obtain ⟨u, rfl, ru⟩ := rv.one
  obtain ⟨t, rfl⟩ := ru
  obtain ⟨z, its, n, r, hl, e⟩ := I.lstM hH
  obtain ⟨w, hw, rw'⟩ := r.get hy
  refine call_meets F.slot_list_pop ⟨_, e, rfl⟩ F.entry_list_pop (F.args_list_pop_2 _ _)
    (MeetsSeq.list_pop_at l its.toArray n i t k w (fitsIndex_both h1 h2) (by rw [List.size_toArray, ← hl]; exact hk) (by rw [← Array.getElem?_toList]; exact hw) (by rw [List.size_toArray]; omega)) ⟨e, ?_⟩
  refine ⟨y, _, I.lset (its' := its.eraseIdx k) hH e ?_ (r.eraseIdx k) ?_, rw', q⟩
  · show its.toArray.eraseIdxIfInBounds k = (its.eraseIdx k).toArray
    rw [List.eraseIdxIfInBounds_toArray]
  · have := len_erase xs k
    omega
def rCat : R2 := fun x y H Q => ∃ l b xs zs, x = .ref l ∧ y = .ref b ∧ H l = some (.lst xs) ∧ H b = some (.lst zs) ∧ xs.length + zs.length ≤ sizeLine ∧ ∀ p, H p = none → Q (.ref p) (upd H p (.lst (xs ++ zs)))
theorem op_cat : OpR X (binaryOp .Add) rCat := by
  intro pins s σ H x y v u Q I rx ry h
  obtain ⟨l, b, xs, zs, rfl, rfl, hH, hB, hz, q⟩ := h
  cases rx
  cases ry
  obtain ⟨z, its, n, r, hl, e⟩ := I.lstM hH
  obtain ⟨z2, its2, n2, r2, hl2, e2⟩ := I.lstM hB
  refine PySem.P.add_list e e2 ?_ (by rw [List.size_toArray, List.size_toArray]; omega)
  have ea : its.toArray ++ its2.toArray = (its ++ its2).toArray := by simp
  rw [ea]
  exact ⟨.ref _, _, I.lnew (t' := s.toks) (r.append r2) (by rw [List.length_append]; omega), rfl, q _ I.fresh⟩
end
section
variable {prog : Program} {w : World} {A : Around} {E : Value → Shared → Prop} {s : Shared}
end
section
variable {X : Cx}
end
end L2
namespace Att
open PySem PySem.W PySem.Calls PyProof.Rows
theorem ints_of_wellAll {P : Params} {h : Heap} : ∀ (ns : List Int) (vs : List Value), WellAll P h vs (ns.map WData.int) → IntsAre vs ns := by
  intro ns
  induction ns with
  | nil =>
    intro vs w
    rw [List.map_nil] at w
    cases w
    exact .nil
  | cons n ns ih =>
    intro vs w
    rw [List.map_cons] at w
    cases w with
    | cons a b =>
      cases a
      exact .cons _ _ (ih _ b)
theorem script_of {l : OpenLaw} {n : Nat} (hn : l.most = some n) {P : Params} {h : Heap} {args : List WData} {vals : List Value}
    (hpre : l.row.toRowW.claim.pre args = true) (hwl : WellAll P h vals args) :
    ∃ a vs ns, vals = [Value.ref a] ∧ args = [WData.list (ns.map WData.int)] ∧ h.get? a = some { cls := .type "list", data := .seq vs.toArray } ∧ IntsAre vs ns ∧ ns.length ≤ n := by
  have hsh : WShape.hasAll [] args [.list .int] = true := (pre_splitW hpre).1
  have hc : l.pre.holds [] { args := args } = true := (pre_splitW hpre).2
  obtain ⟨d, r, rfl, h1, h2⟩ := hasAllW_cons hsh
  obtain rfl := hasAllW_nil h2
  obtain ⟨xs, rfl, h3⟩ := hasW_list h1
  obtain ⟨ns, rfl⟩ := items_int h3
  have hlen : ns.length ≤ n := by
    unfold OpenLaw.pre at hc
    have h4 : (WTm.not (.lt (.lit (.int (n : Int))) (.len (.arg 0)))).holds [] { args := [.list (ns.map .int)] } = true := by
      have h4 := (holds_andW hc).1
      rw [hn] at h4
      exact h4
    have h5 := condW_of h4 (w_not (w_lt w_lit (w_len_list (w_arg rfl))))
    rw [List.length_map] at h5
    refine Nat.le_of_not_lt fun q => ?_
    have q' : (n : Int) < ((ns.length : Nat) : Int) := by omega
    first
      | (rw [decide_eq_true q'] at h5; exact absurd h5 (by decide))
      | (simp at h5; omega)
  cases hwl with
  | cons w1 w2 =>
    cases w2
    cases w1 with
    | list ho hall => exact ⟨_, _, ns, rfl, rfl, ho, ints_of_wellAll ns _ hall, hlen⟩
theorem post_true (l : OpenLaw) (args : List WData) : l.row.toRowW.claim.post args (.bool true) args = true :=
  postW_of (r := l.row.toRowW) (X := (true == true))
    (show WShape.has [] (.bool true) .bool = true by first | rfl | decide | simp [WShape.has, WShape.arms, WShape.armsAll])
    (show (WTm.eq .res (.lit (.bool true))).value [] { args := args, res := some (.bool true), after := args } = some (.bool (true == true)) from w_eq_bool (w_res rfl) w_lit) rfl
theorem attach_call {l : OpenLaw} {n : Nat} {q : Program} {loose : List Str} {XP : (Str → Option Value) → Heap → Prop} {YP : World → Heap → Prop} {d : DefRec}
    (hn : l.most = some n) (hdf : d.params.defaults = [])
    (call : ∀ (w : World) (s₀ s₁ : Shared) (mg mb : Str → Option Value) (fa : Addr) (o : Obj) (pm cd doc : Value) (a : Addr) (vs : List Value) (ns : List Int),
      Ground q loose [] XP w s₀ mg mb s₁.heap → YP w s₁.heap →
      s₁.heap.get? fa = some o → o.data = .func (docDef d.name d.params d.body d.scope pm cd doc) → s₁.heap.CodeRec cd d.name → mg d.name = some (.ref fa) →
      s₁.heap.get? a = some { cls := .type "list", data := .seq vs.toArray } → IntsAre vs ns → ns.length ≤ n → s₁.gens = #[] →
      codeAny (model l.prog w) callerA (.call (.ref fa) ⟨[.ref a], []⟩) (fun r s' => r = .ok (.ret (.bool true)) ∧ OldK s₁.heap s'.heap ∧ s'.os = s₁.os ∧ AllBare s'.gens) s₁) :
    WalkO q loose XP YP l.row.toRowW d [] (fun f vs => PySem.call f vs) := by
  intro w s₀ s₁ mg mb G Y fa o pm cd doc dV kV ho hd hcd hD hmg hg args vals as hpre hlay hrd hwl hlo
  obtain rfl : dV = .none := Dflts.none hD hdf
  obtain rfl : kV = .none := Dflts.noKw hD
  obtain ⟨a, vs, ns, rfl, rfl, hobj, hints, hlen⟩ := script_of hn hpre hwl
  refine enter_call (codeAny_mono (call w s₀ s₁ mg mb fa o pm cd doc a vs ns G Y ho (fd_plain hd) hcd hmg hobj hints hlen hg) fun r s' hq => ?_)
  obtain ⟨rfl, h2, h3, h4⟩ := hq
  exact ⟨.inl ⟨.bool true, .bool true, [], rfl, fun _ => rfl, .bool true, post_true l _, fun _ => ⟨List.Pairwise.nil, fun _ hm => (nomatch hm)⟩⟩, h2, h3, h4⟩
section
variable {prog : Program} {w : World} {A : Around} {E : Value → Shared → Prop} {s : Shared} {K : Frag}
end
end Att
namespace L2
open PySem PySem.Spec PyProof.Rows
theorem vals_ints : ∀ {vs : List Value} {ns : List Int}, IntsAre vs ns → Vals (ns.map V.int) vs
  | _, _, .nil => .nil
  | _, _, .cons n t h => .cons ⟨t, rfl⟩ (vals_ints h)
def Only (H : Hp) : Prop := ∀ b, H b = none ∨ ∃ o xs, H b = some (.frz o (.lst xs))
theorem law_call {P : Program} {w : World} {K : PySem.W.Frag} {mg mb : Str → Option Value} {CX : CXT} {k : Nat} {fa a : Addr} {fd : FuncData} {x : Str} {sp : Sp} {s₁ : Shared} {vs : List Value} {ns : List Int}
    (KX : K.In s₁.heap) (hns : s₁.heap.Ns mainGlobals mg) (hb : s₁.heap.Ns builtinsNs mb) (hbb : ∀ x : Str, x ≠ "__name__" → mb x = bootBuiltins x) (hlim : s₁.heap.NoLimit) (hg : s₁.gens = #[])
    (ha : s₁.heap.get? a = some { cls := .type "list", data := .seq vs.toArray }) (hi : IntsAre vs ns) (hl : ns.length ≤ sizeLine) (hr : Room k callerA)
    (F : ∀ base : Heap, K.In base → base.Ns mainGlobals mg → FnOk P w K mg base CX k fa fd [x] sp) (hbind : ∀ (s : Shared) (u : Value), BindsTo s fd ⟨[u], []⟩ [(x, u)])
    (hsp : ∀ H : Hp, Only H → SqL K H a (ns.map V.int) → sp [.ref a] H (fun v _ => v = .bl true) fun _ _ _ => False)
    (hCX : ∀ H e s', CX [] H s₁ (fun _ _ _ => False) e s' → False) :
    codeAny (model P w) callerA (.call (.ref fa) ⟨[.ref a], []⟩) (fun r s' => r = .ok (.ret (.bool true)) ∧ OldK s₁.heap s'.heap ∧ s'.os = s₁.os ∧ AllBare s'.gens) s₁ := by
  have rv := vals_ints hi
  have lenV := hi.length
  have core : ∀ H : Hp, Only H → SqL K H a (ns.map V.int) → HOk P w H s₁.heap → (∀ b, H b ≠ none → b = a) → (H a ≠ none → K.lookup a = none) →
      codeAny (model P w) callerA (.call (.ref fa) ⟨[.ref a], []⟩) (fun r s' => r = .ok (.ret (.bool true)) ∧ OldK s₁.heap s'.heap ∧ s'.os = s₁.os ∧ AllBare s'.gens) s₁ := by
    intro H hO hS hok hA hK
    have base_of : ∀ {b : Addr} {o : Obj}, s₁.heap.get? b = some o → H b = none → (hidT s₁.heap H).get? b = some o := fun e n => hidT_get e n
    have noA : ∀ {b : Addr} {o : Obj} {es : Array DictEntry} {ep : Nat}, s₁.heap.get? b = some o → o.data = .dict es ep → H b = none := fun {b o es ep} e d => by
      cases q : H b with
      | none => rfl
      | some u =>
        have e' : b = a := hA b (by rw [q]; simp)
        subst e'
        rw [ha] at e; cases e
        have d' : Data.seq vs.toArray _ = Data.dict es ep := d
        cases d'
    have nsK : ∀ {b : Addr} {m : Str → Option Value}, s₁.heap.Ns b m → (hidT s₁.heap H).Ns b m := fun {b m} ⟨o, es, ep, e, d, r⟩ => ⟨o, es, ep, base_of e (noA e d), d, r⟩
    have hKb : K.In (hidT s₁.heap H) := fun b o e => base_of (KX b o e) (by
      cases q : H b with
      | none => rfl
      | some u =>
        have e' : b = a := hA b (by rw [q]; simp)
        subst e'
        rw [hK (by rw [q]; simp)] at e; cases e)
    have hM : Mod K mg (hidT s₁.heap H) := ⟨hKb, nsK hns, ⟨mb, nsK hb, hbb⟩, let ⟨mc, h1, h2⟩ := hlim; ⟨mc, nsK h1, h2⟩⟩
    have e0 : Env0 P w K mg (hidT s₁.heap H) callerA [] s₁ H := ⟨rfl, hM, fun b o e => of_hidT e, Nat.le_of_eq (hidT_size _ _), trivial, fun b hb => absurd (show b ∈ ([] : List Addr) from hb) (by simp), hok, .of_eq hg⟩
    refine codeAny_mono ((F _ hKb (nsK hns)).run callerA [] s₁ H ⟨[.ref a], []⟩ [.ref a] [.ref a] _ _ hr e0 (hbind s₁ (.ref a)) (.cons rfl .nil) (hsp H hO hS)) fun r s' h => ?_
    cases r with
    | error e => exact (hCX H e s' h).elim
    | ok fl =>
      cases fl with
      | next => exact False.elim h
      | brk => exact False.elim h
      | cont => exact False.elim h
      | ret u =>
        obtain ⟨v, H', os, bare, un, hok', r', q⟩ := h
        have q' : v = .bl true := q
        subst q'
        obtain rfl : u = Value.bool true := r'
        refine ⟨rfl, OldK.of_keep fun b o e => ?_, os, bare⟩
        cases q : H b with
        | none => exact un.keep b o e q (by intro z; exact absurd (show b ∈ ([] : List Addr) from z) (by simp)) (by simp)
        | some u =>
          rcases hO b with z | ⟨ob, xs, z⟩
          · rw [q] at z; cases z
          · have z2 := un.frzs b ob _ z
            obtain ⟨e1, _⟩ := hok b _ z
            obtain ⟨e2, _⟩ := hok' b _ z2
            rw [e] at e1; cases e1
            exact e2
  cases hk : K.lookup a with
  | some o =>
    have e := KX a o hk
    rw [ha] at e
    cases e
    refine core (fun _ => none) (fun _ => .inl rfl) (.inr ⟨_, vs.toArray, _, hk, rfl, rfl, rfl, by rw [List.size_toArray, lenV]; exact hl, by simpa using rv⟩) (fun b u z => by have z' : (none : Option HO) = some u := z; cases z') (fun b z => absurd rfl z) fun z => absurd rfl z
  | none =>
    refine core (fun b => if b = a then some (.frz { cls := .type "list", data := .seq vs.toArray } (.lst (ns.map V.int))) else none) (fun b => ?_) (.inl (.inr ⟨{ cls := .type "list", data := .seq vs.toArray }, if_pos rfl⟩)) (fun b u z => ?_) (fun b z => ?_) fun _ => hk
    · by_cases hb : b = a
      · exact .inr ⟨_, _, if_pos hb⟩
      · exact .inl (if_neg hb)
    · by_cases hb : b = a
      · have z' := (if_pos hb).symm.trans z
        cases z'
        subst hb
        exact ⟨ha, by rw [List.length_map]; exact hl, vs, _, rv, ha⟩
      · have z' := (if_neg hb).symm.trans z
        cases z'
    · by_cases hb : b = a
      · exact hb
      · exact absurd (if_neg hb) z
end L2
namespace L2
open PySem PySem.Spec PyProof.Rows
abbrev KOf {K : PySem.W.Frag} {h : Heap} (_ : K.In h) : PySem.W.Frag := K
theorem walk_of {l : PySem.W.OpenLaw} {n k : Nat} {q : Program} {loose : List Str} {XP : (Str → Option Value) → Heap → Prop} {YP : World → Heap → Prop} {d : DefRec} {K : Params → PySem.W.Frag} {CX : World → CXT} {sp : World → Sp} {x : Str}
    (hn : l.most = some n) (hn2 : n ≤ sizeLine) (hdf : d.params.defaults = []) (hr : Room k callerA)
    (hY : ∀ (w : World) (h : Heap), YP w h → (K w.params).In h)
    (F : ∀ (w : World) (mg : Str → Option Value) (fa : Addr) (h : Heap), (K w.params).In h → h.Ns mainGlobals mg → mg d.name = some (.ref fa) →
      ∃ fd : FuncData, (∀ (s : Shared) (u : Value), BindsTo s fd ⟨[u], []⟩ [(x, u)]) ∧
        ∀ base : Heap, (K w.params).In base → base.Ns mainGlobals mg → FnOk l.prog w (K w.params) mg base (CX w) k fa fd [x] (sp w))
    (hsp : ∀ (w : World) (H : Hp) (a : Addr) (ns : List Int), ns.length ≤ n → Only H → SqL (K w.params) H a (ns.map V.int) → sp w [.ref a] H (fun v _ => v = .bl true) fun _ _ _ => False)
    (hCX : ∀ (w : World) (H : Hp) (s : Shared) (e : Value) (s' : Shared), CX w [] H s (fun _ _ _ => False) e s' → False) :
    PySem.W.WalkO q loose XP YP l.row.toRowW d [] (fun f vs => PySem.call f vs) := by
  refine Att.attach_call hn hdf fun w s₀ s₁ mg mb fa o pm cd doc a vs ns G Y ho hd hcd hmg hobj hints hlen hg => ?_
  have KX := hY w _ Y
  obtain ⟨fd, hb, hF⟩ := F w mg fa _ KX G.T.g hmg
  exact law_call KX G.T.g G.T.b G.T.builtins G.T.nolimit hg hobj hints (Nat.le_trans hlen hn2) hr hF hb (fun H hO hS => hsp w H a ns hlen hO hS) fun H e s' => hCX w H s₁ e s'
end L2
/- THE LAST THEOREM (shape; LID, My.* are yours):
   My.Adr: a structure of the addresses that your layer names (classes, functions); My.Txt K t: a structure (Prop) of the equations over K;
   My.txt_mk : {K} {implicit addresses ..} (e1 : nsIn K mainGlobals "law" = some (some (.ref f))) (e2 : K.lookup f = some ⟨oc, od, .func (fnOf "law" "law" params body scope dV kV doc pm an cdv ct), sl⟩) (e3 : codeIn K cdv "law" = true) .. : ∃ t, My.Txt K t
set_option maxRecDepth 100000 in
set_option maxHeartbeats 0 in
theorem PySem.Challenge.cw_LID_holds : PySem.Challenge.rw_LID.Holds := by
  w_on; o_law; k_head; (case hw => w_witness2)
  k_fill
  refine L2.walk_of (l := PySem.Challenge.rw_LID) (n := 63) (k := 40) (x := "script") (CX := fun w => ..) (sp := fun _ => My.sp_law) rfl (by decide) rfl ⟨rfl, by decide, by decide⟩ (fun w h Y => PySem.W.kIn_of Y) ?F ?S ?C
  case F =>
    intro w mg fa h KX G hmg
    have T : ∃ t, My.Txt (L2.KOf KX) t := by
      dsimp only [L2.KOf]                          -- K must stand as «<heap const> w.params» for k_is
      refine' My.txt_mk ?e1 ?e2 ?e3 ..
      (case e1 => PySem.W.k_is)                    -- in the order: a name -> its address -> its object -> its parts
      (case e2 => PySem.W.k_is)
      ..
    obtain ⟨t, T⟩ := T
    have e0 := hmg.symm.trans (PySem.W.mg_of KX G T.law)
    cases e0                                       -- fa is the law's own address
    exact ⟨_, fun s u => .of_eq rfl, fun base kb nb => My.law_fn T kb nb⟩     -- if «.of_eq rfl» comes too early: refine' ⟨_, ?b, fun base kb nb => My.law_fn T kb nb⟩; exact fun s u => .of_eq rfl
  case S => exact fun w H a ns hl hO hS => ..
  case C => exact ..
(the tactic k_is has no namespace: write k_is) -/
namespace L2
open PySem PySem.Spec PyProof.Rows
def defArgs (s : Stmt) : Arguments := match s with
  | .FunctionDef _ a _ _ _ _ _ _ _ _ => a
  | _ => { posonlyargs := [], args := [], vararg := none, kwonlyargs := [], kw_defaults := [], kwarg := none, defaults := [] }
def defBody (s : Stmt) : List Stmt := match s with
  | .FunctionDef _ _ b _ _ _ _ _ _ _ => b
  | _ => []
def defScope (s : Stmt) : Scope := match s with
  | .FunctionDef _ _ _ _ _ _ sc _ _ _ => sc
  | _ => { kind := .function, names := [], isGenerator := false, isCoroutine := false }
abbrev CX0 : CXT := fun _ _ _ _ _ _ => False
abbrev E0 : XK := fun _ _ _ => False
theorem pass0 {X : Cx} : Passes CX0 X E0 := fun _ _ _ _ _ _ _ h => h.elim
structure Fun (K : PySem.W.Frag) (x qual : Str) (st : Stmt) (f : Addr) (fd : FuncData) : Prop where
  ex : ∃ (oc : Value) (od : Option Addr) (kV doc pm : Value) (an : Option Addr) (cdv ct : Value) (osl : Array (Option Value)),
    fd = PySem.W.fnOf x qual (defArgs st) (defBody st) (defScope st) .none kV doc pm an cdv ct ∧ K.lookup f = some ⟨oc, od, .func fd, osl⟩ ∧ PySem.W.codeIn K cdv qual = true
  kp : PySem.W.keepIn K (.ref f) = true
section
variable {P : Program} {w : World} {K : PySem.W.Frag} {mg : Str → Option Value} {base : Heap}
theorem Fun.ok {x qual : Str} {st : Stmt} {f : Addr} {fd : FuncData} {N ps : List Str} {k : Nat} {sp : Sp} (F : Fun K x qual st f fd) (S : FnScope N ps (defScope st)) (len : ∀ vs H Q E, sp vs H Q E → vs.length = ps.length)
    (hbody : ∀ (cdv : Value) (A : Around) (outer : List Env) (s : Shared) (H : Hp) (vs : List V) (Q : VK) (E : XK), Room k (A.deeper (envOfC qual (defScope st) s.heap.objs.size f cdv)) → sp vs H Q E →
      ∃ t, PSs (cxOf CX0 P w K mg base N qual (defScope st) f cdv A outer s H E).nox (defBody st) t ∧ t { nx := fun _ H' => Q .non H', rt := Q } (start N vs) H) : FnOk P w K mg base CX0 (k + 1) f fd ps sp := by
  obtain ⟨oc, od, kV, doc, pm, an, cdv, ct, osl, rfl, lk, hcd⟩ := F.ex
  refine fn_of lk hcd S len fun A outer s H vs Q E hr hsp => ?_
  obtain ⟨t, h, q⟩ := hbody cdv A outer s H vs Q E hr hsp
  exact ⟨t, h.nox, q⟩
theorem Fun.binds {x qual : Str} {st : Stmt} {f : Addr} {fd : FuncData} {ps : List Str} (F : Fun K x qual st f fd)
    (h : ∀ (kV doc pm : Value) (an : Option Addr) (cdv ct : Value) (us : List Value), us.length = ps.length → bindArgs (PySem.W.fnOf x qual (defArgs st) (defBody st) (defScope st) .none kV doc pm an cdv ct) ⟨us, []⟩ = pure (ps.zip us)) : Binds K fd ps [] := by
  obtain ⟨oc, od, kV, doc, pm, an, cdv, ct, osl, rfl, lk, hcd⟩ := F.ex
  exact .all (h kV doc pm an cdv ct)
theorem fun_mk {x qual : Str} {st : Stmt} {f : Addr} {oc : Value} {od an : Option Addr} {osl : Array (Option Value)} {kV doc pm cdv ct : Value} (l : K.lookup f = some ⟨oc, od, .func (PySem.W.fnOf x qual (defArgs st) (defBody st) (defScope st) .none kV doc pm an cdv ct), osl⟩)
    (c : PySem.W.codeIn K cdv qual = true) (k : PySem.W.keepIn K (.ref f) = true) : Fun K x qual st f (PySem.W.fnOf x qual (defArgs st) (defBody st) (defScope st) .none kV doc pm an cdv ct) := ⟨⟨oc, od, kV, doc, pm, an, cdv, ct, osl, rfl, l, c⟩, k⟩
end
section
variable {X : Cx}
theorem pv (i : Nat) {x : Str} {pos : Pos} (hN : X.N[i]? = some x := by rfl) (hv : Vis X.env.scope x := by first | exact Or.inl rfl | exact Or.inr (Or.inl rfl) | exact Or.inr (Or.inr rfl)) (hd : (x == ("__debug__" : Str)) = false := by decide)
    (hcd : (x == ("__classdict__" : Str)) = false := by decide) : PE X (.Name x pos) (tVar i) := pe_var hN hv hd hcd
end
theorem iteF {A B : Prop} (h : B) : if false = true then A else B := by
  rw [if_neg Bool.false_ne_true]
  exact h
theorem iteT {A B : Prop} (h : A) : if true = true then A else B := by
  rw [if_pos rfl]
  exact h
theorem ite2 {c A B : Prop} [Decidable c] (h1 : c → A) (h2 : ¬ c → B) : if c then A else B := by
  by_cases h : c
  · rw [if_pos h]
    exact h1 h
  · rw [if_neg h]
    exact h2 h
def Same (H H' : Hp) : Prop := ∀ b o, H b = some o → H' b = some o
theorem Same.refl (H : Hp) : Same H H := fun _ _ h => h
theorem Same.trans {H H1 H2 : Hp} (a : Same H H1) (b : Same H1 H2) : Same H H2 := fun c o h => b c o (a c o h)
theorem Same.free {H H' : Hp} (e : Same H H') {l : Addr} (h : H' l = Option.none) : H l = Option.none := by
  cases q : H l with
  | none => rfl
  | some o =>
    rw [e l o q] at h
    cases h
theorem Same.seq {K : PySem.W.Frag} {H H' : Hp} {a : Addr} {xs : List V} (e : Same H H') (h : SqL K H a xs) : SqL K H' a xs := by
  rcases h with (h | ⟨o, h⟩) | h
  · exact .inl (.inl (e _ _ h))
  · exact .inl (.inr ⟨o, e _ _ h⟩)
  · exact .inr h
end L2
namespace L2
open PySem PySem.Spec PyProof.Rows
theorem closure_go {env : Env} : ∀ (names : List (Str × NameKind)) (acc : List (Str × Addr)), (∀ y ∈ names, y.2 = NameKind.free → ∃ c, env.cells.lookup y.1 = some c) → (∀ y c, acc.lookup y = some c → env.cells.lookup y = some c) →
    ∃ cl, (forIn names acc fun (x : Str × NameKind) (r : List (Str × Addr)) => (if x.2 == NameKind.free then do let a ← cellOf env x.1; pure (ForInStep.yield ((x.1, a) :: r)) else pure (ForInStep.yield r) : Sem (ForInStep (List (Str × Addr))))) = pure cl ∧
      (∀ y c, cl.lookup y = some c → env.cells.lookup y = some c) ∧ (∀ y, (∃ c, acc.lookup y = some c) → ∃ c, cl.lookup y = some c) ∧ ∀ y, (y, NameKind.free) ∈ names → ∃ c, cl.lookup y = some c
  | [], acc, _, ha => ⟨acc, rfl, ha, fun _ h => h, fun _ h => by cases h⟩
  | (n, k) :: r, acc, hf, ha => by
    by_cases hk : k = NameKind.free
    · subst hk
      obtain ⟨c, hc⟩ := hf (n, .free) List.mem_cons_self rfl
      have ha' : ∀ y c', ((n, c) :: acc).lookup y = some c' → env.cells.lookup y = some c' := fun y c' h => by
        rw [List.lookup_cons] at h
        cases e : y == n with
        | true =>
          rw [e] at h
          cases h
          have e' : y = n := by simpa using e
          rw [e']; exact hc
        | false => rw [e] at h; exact ha y c' h
      obtain ⟨cl, h1, h2, h3, h4⟩ := closure_go r ((n, c) :: acc) (fun y hy => hf y (List.mem_cons_of_mem _ hy)) ha'
      refine ⟨cl, ?_, h2, fun y hy => h3 y ?_, fun y hy => ?_⟩
      · rw [List.forIn_cons]
        simp only [beq_self_eq_true, if_true, cellOf, hc, pure_bind]
        exact h1
      · rw [List.lookup_cons]
        cases e : y == n with
        | true => exact ⟨c, rfl⟩
        | false => exact hy
      · rcases List.mem_cons.mp hy with e | hy
        · cases e
          exact h3 n ⟨c, by rw [List.lookup_cons, beq_self_eq_true]⟩
        · exact h4 y hy
    · have hb : (k == NameKind.free) = false := by simpa using hk
      obtain ⟨cl, h1, h2, h3, h4⟩ := closure_go r acc (fun y hy => hf y (List.mem_cons_of_mem _ hy)) ha
      refine ⟨cl, ?_, h2, h3, fun y hy => ?_⟩
      · rw [List.forIn_cons]
        simp only [hb, Bool.false_eq_true, if_false, pure_bind]
        exact h1
      · rcases List.mem_cons.mp hy with e | hy
        · cases e; exact absurd rfl hk
        · exact h4 y hy
theorem closure_of {scope : Scope} {env : Env} (h : ∀ y ∈ scope.names, y.2 = NameKind.free → ∃ c, env.cells.lookup y.1 = some c) :
    ∃ cl, closureFor scope env = pure cl ∧ (∀ y c, cl.lookup y = some c → env.cells.lookup y = some c) ∧ ∀ y, (y, NameKind.free) ∈ scope.names → ∃ c, cl.lookup y = some c := by
  obtain ⟨cl, h1, h2, _, h4⟩ := closure_go scope.names [] h (fun y c z => by simp at z)
  refine ⟨cl, ?_, h2, h4⟩
  have e : closureFor scope env = ((forIn scope.names ([] : List (Str × Addr)) fun (x : Str × NameKind) (r : List (Str × Addr)) => (if x.2 == NameKind.free then do let a ← cellOf env x.1; pure (ForInStep.yield ((x.1, a) :: r)) else pure (ForInStep.yield r) : Sem (ForInStep (List (Str × Addr))))) >>= fun cs => pure cs) := rfl
  rw [e, h1]
  rfl
structure CompOk (N : List Str) (fs scope : Scope) (x : Str) : Prop where
  kind : scope.kind = .function
  cell : ∀ y ∈ scope.names, y.2 ≠ NameKind.cell
  free : ∀ y ∈ scope.names, y.2 = NameKind.free → fs.names.lookup y.1 = some .cell ∨ fs.names.lookup y.1 = some .free
  locs : ∀ y ∈ scope.names, y.2 = NameKind.local → scope.names.lookup y.1 = some .local ∧ y.1 ∉ N
  own : scope.names.lookup x = some .local
def compOk (N : List Str) (fs scope : Scope) (x : Str) : Bool :=
  decide (scope.kind = .function) && scope.names.all (fun y => decide (y.2 ≠ NameKind.cell) && (decide (y.2 ≠ NameKind.free) || decide (fs.names.lookup y.1 = some .cell) || decide (fs.names.lookup y.1 = some .free)) &&
    (decide (y.2 ≠ NameKind.local) || (decide (scope.names.lookup y.1 = some .local) && decide (y.1 ∉ N)))) && decide (scope.names.lookup x = some .local)
theorem CompOk.of {N : List Str} {fs scope : Scope} {x : Str} (h : compOk N fs scope x = true) : CompOk N fs scope x := by
  unfold compOk at h
  simp only [Bool.and_eq_true, Bool.or_eq_true, decide_eq_true_eq, List.all_eq_true] at h
  obtain ⟨⟨h1, h2⟩, h3⟩ := h
  refine ⟨h1, fun y hy => (h2 y hy).1.1, fun y hy e => ?_, fun y hy e => ?_, h3⟩
  · rcases (h2 y hy).1.2 with (z | z) | z
    · exact absurd e z
    · exact .inl z
    · exact .inr z
  · rcases (h2 y hy).2 with z | z
    · exact absurd e z
    · exact z
def compCx (X : Cx) (x : Str) (scope : Scope) (cl : List (Str × Addr)) (C : Addr) (fp : List Addr) (s₀ : Shared) (H₀ : Hp) : Cx :=
  { X with N := X.N ++ [x], s₀ := s₀, H₀ := H₀, env := compEnvC scope cl C X.env, outer := X.stack, stack := X.stack, ex := fp, fn := fun _ => false, pn := [], xe := fun _ _ => False }
theorem lookup_map_kind {f : Str × NameKind → NameKind} {y : Str} : ∀ {l : List (Str × NameKind)} {k : NameKind}, (l.map fun p => (p.1, f p)).lookup y = some k → ∃ k0, (y, k0) ∈ l ∧ l.lookup y = some k0 ∧ k = f (y, k0)
  | [], _, h => by simp at h
  | (n, k0) :: r, k, h => by
    rw [List.map_cons, List.lookup_cons] at h
    cases e : y == n with
    | true =>
      rw [e] at h
      have e' : y = n := by simpa using e
      subst e'
      cases h
      exact ⟨k0, List.mem_cons_self, by rw [List.lookup_cons, e], rfl⟩
    | false =>
      rw [e] at h
      obtain ⟨k1, h1, h2, h3⟩ := lookup_map_kind h
      exact ⟨k1, List.mem_cons_of_mem _ h1, by rw [List.lookup_cons, e]; exact h2, h3⟩
theorem relabel_kind {scope : Scope} {env : Env} {y : Str} {k : NameKind} (h : (relabel scope env).names.lookup y = some k) :
    (scope.names.lookup y = some k ∧ (y, k) ∈ scope.names) ∨ (k = .cell ∧ scope.names.lookup y = some .free ∧ (y, NameKind.free) ∈ scope.names) := by
  have e : (relabel scope env).names = scope.names.map fun p => (p.1, (fun (q : Str × NameKind) => if (q.2 == NameKind.free && env.scope.kind == .function && env.kindOf q.1 == some .cell) = true then NameKind.cell else q.2) p) := by
    unfold relabel
    refine List.map_congr_left fun p _ => ?_
    obtain ⟨n, k⟩ := p
    dsimp only
    split <;> rfl
  rw [e] at h
  obtain ⟨k0, h1, h2, h3⟩ := lookup_map_kind h
  dsimp only at h3
  split at h3
  · rename_i c
    simp only [Bool.and_eq_true, beq_iff_eq] at c
    obtain ⟨⟨c1, _⟩, _⟩ := c
    subst c1
    exact .inr ⟨h3, h2, h1⟩
  · subst h3
    exact .inl ⟨h2, h1⟩
section
variable {X : Cx} {pins : List (Addr × Obj)} {σ : St} {H : Hp} {s : Shared}
theorem comp_inv {x : Str} {scope : Scope} {cl : List (Str × Addr)} {C : Addr} {fp : List Addr} {s' : Shared} (I : Inv X pins σ H s) (ok : CompOk X.N X.env.scope scope x)
    (c1 : ∀ y c, cl.lookup y = some c → X.env.cells.lookup y = some c) (c2 : ∀ y, (y, NameKind.free) ∈ scope.names → ∃ c, cl.lookup y = some c) (hf : ∀ b ∈ fp, FpOk X pins H b)
    (hC : s.heap.objs.size ≤ C) (hn : s'.heap.Ns C fun _ => none) (hk : ∀ b o, s.heap.get? b = some o → s'.heap.get? b = some o) (ho : s'.os = s.os) (hg : s'.gens = s.gens) (hfs : ∀ b ∈ fp, b < s.heap.objs.size) :
    Inv (compCx X x scope cl C fp s H) [] (σ ++ [none]) H s' := by
  have fresh : H C = none := I.hok.fresh hC
  have CneC : ∀ y c, cl.lookup y = some c → c ≠ C := fun y c e z => by
    obtain ⟨v, q⟩ := I.cell y c (c1 y c e)
    exact absurd (Nat.lt_of_lt_of_le q.lt (by rw [z]; exact hC)) (Nat.lt_irrefl _)
  refine ⟨⟨I.ok.mod, ok.kind, I.ok.glob, I.ok.blt, hC, fun y z c h1 h2 => I.ok.inj y z c (c1 y c h1) (c1 z c h2), fun y hy => ?_, fun y c z => ?_, I.ok.hd, I.ok.frames, .inl rfl, fun b hb => ⟨?_, fun y c e => (hf b hb).2.2.2.2.1 y c (c1 y c e)⟩,
      I.bs, Nat.le_trans I.ok.bsz I.sz, fun b o e hb => ?_, fun b hb hb2 => ?_, I.stack, I.stkFree⟩,
    ho, by rw [hg]; exact I.bare, Un.kept hk, ⟨_, hn, fun i y v h1 h2 h3 => ?_⟩, fun y c e => ?_, fresh, fun y c e => I.freeC y c (c1 y c e), fun p hp => absurd (show p ∈ ([] : List (Addr × Obj)) from hp) (by simp), I.hok.kept hk, ?_⟩
  · -- has
    have hy : (relabel scope X.env).names.lookup y = some .cell ∨ (relabel scope X.env).names.lookup y = some .free := hy
    have hm : (y, NameKind.free) ∈ scope.names := by
      rcases hy with hy | hy
      · rcases relabel_kind hy with ⟨_, z⟩ | ⟨_, _, z⟩
        · exact absurd rfl (ok.cell _ z)
        · exact z
      · rcases relabel_kind hy with ⟨_, z⟩ | ⟨_, _, z⟩
        · exact z
        · exact z
    exact c2 y hm
  · exact absurd (show false = true from z) (by decide)
  · exact Nat.ne_of_lt (Nat.lt_of_lt_of_le (hfs b hb) hC)
  · -- noex
    rcases (hf b hb).2.2.2.1 with z | z
    · exact I.ok.noex b o e z
    · exact absurd (Nat.lt_of_lt_of_le (Heap.lt_size (I.ok.bs b o e).1) z) (Nat.lt_irrefl _)
  · -- exfs
    have hb2 : b ∈ frs X.stack := hb2
    rcases List.mem_cons.mp (I.stkSub b hb2) with z | z
    · exact (hf b hb).2.1 z
    · exact (hf b hb).2.2.1 z
  · -- a name that is seen in the block is one of the function's cells
    have hy : (relabel scope X.env).names.lookup y = some .local ∨ (relabel scope X.env).names.lookup y = some .cell ∨ (relabel scope X.env).names.lookup y = some .free := h3
    have h1 : (X.N ++ [x])[i]? = some y := h1
    by_cases hi : i < X.N.length
    · have e1 : X.N[i]? = some y := by rw [List.getElem?_append_left hi] at h1; exact h1
      have e2 : σ[i]? = some (some v) := by rw [List.getElem?_append_left (by rw [I.len]; exact hi)] at h2; exact h2
      have hyN : y ∈ X.N := List.mem_of_getElem? e1
      have hm : ((y, NameKind.free) ∈ scope.names) ∧ ((relabel scope X.env).names.lookup y = some .cell ∨ (relabel scope X.env).names.lookup y = some .free) := by
        rcases hy with hy | hy | hy
        · rcases relabel_kind hy with ⟨_, z⟩ | ⟨z, _⟩
          · exact absurd hyN (ok.locs _ z rfl).2
          · cases z
        · rcases relabel_kind hy with ⟨_, z⟩ | ⟨_, _, z⟩
          · exact absurd rfl (ok.cell _ z)
          · exact ⟨z, .inl hy⟩
        · rcases relabel_kind hy with ⟨_, z⟩ | ⟨_, _, z⟩
          · exact ⟨z, .inr hy⟩
          · exact ⟨z, .inr hy⟩
      obtain ⟨c, hc⟩ := c2 y hm.1
      obtain ⟨m, _, hl⟩ := I.loc
      have hv : Vis X.env.scope y := by
        rcases ok.free _ hm.1 rfl with z | z
        · exact .inr (.inl z)
        · exact .inr (.inr z)
      obtain ⟨u, r, l⟩ := hl i y v e1 e2 hv
      refine ⟨u, r, .inr ⟨hm.2, c, hc, ?_⟩⟩
      rcases l with ⟨kl, _⟩ | ⟨_, c', e', q⟩
      · have kl : X.env.scope.names.lookup y = some .local := kl
        rcases ok.free _ hm.1 rfl with z | z
        · rw [kl] at z; cases z
        · rw [kl] at z; cases z
      · rw [c1 y c hc] at e'
        cases e'
        obtain ⟨oc, hoc, hd⟩ := q
        exact ⟨oc, hk _ _ hoc, hd⟩
    · rw [List.getElem?_append_right (by rw [I.len]; omega)] at h2
      have : i - σ.length = 0 ∨ 1 ≤ i - σ.length := by omega
      rcases this with z | z
      · rw [z] at h2; cases h2
      · rw [List.getElem?_eq_none (by simpa using z)] at h2; cases h2
  · obtain ⟨v, oc, hoc, hd⟩ := I.cell y c (c1 y c e)
    exact ⟨v, oc, hk _ _ hoc, hd⟩
  · show (σ ++ [none]).length = (X.N ++ [x]).length
    rw [List.length_append, List.length_append, I.len] <;> rfl
end
end L2
namespace L2
open PySem PySem.Spec PyProof.Rows
def PTs (X : Cx) (ifs : List Expr) (t : TT) : Prop :=
  ∀ (pins : List (Addr × Obj)) (s : Shared) (σ : St) (H : Hp) (Q : Bool → Hp → Prop), Inv X pins σ H s → t σ H Q →
    wpAny (model X.prog X.w) X.A (forIn ifs true fun c r => if r = true then do let ok ← isTrue c X.env (eval c X.env); pure (ForInStep.yield ok) else pure (ForInStep.yield r)) (TP X pins σ Q) X.xe s
def tYes : TT := fun _ H Q => Q true H
theorem pts_nil {X : Cx} : PTs X [] tYes := fun _ _ _ H _ I h => wpAny_tests_nil ⟨H, I, h⟩
theorem thnF {α : Type} {t : Sem α} {Q Q' : α → Shared → Prop} {M : Model} {A : Around} {E : Value → Shared → Prop} {s : Shared} (h : wpAny M A t Q (fun _ _ => False) s) (hQ : ∀ a s, Q a s → Q' a s) : wpAny M A t Q' E s := wpAny_mono h hQ fun _ _ x => x.elim
def CompRd (J : It) (tt : TT) (te : TE) (fin : List V → Hp → Prop) (σ : St) (H : Hp) : Prop :=
  ∃ W : Nat → Nat → List V → Hp → Prop, (∃ m, W 0 m [] H) ∧ ∀ i m ys H, W i m ys H →
    (J.stop i H ∧ fin ys H) ∨ (J.go i H ∧ ∀ x H', J.yld i H x H' → tt (σ ++ [some x]) H' fun b H2 =>
      if b = true then te (σ ++ [some x]) H2 fun y H3 => ys.length < sizeLine ∧ ∃ m', m' < m ∧ W (i + 1) m' (ys ++ [y]) H3 else ∃ m', m' < m ∧ W (i + 1) m' ys H2)
def listAt (its : List Value) (c : Nat) : Obj := { cls := .type "list", data := .seq its.toArray c }
section
variable {X : Cx} {pins : List (Addr × Obj)} {σ : St} {H : Hp} {s : Shared} {E : Value → Shared → Prop}
theorem comp_core {elt iter : Expr} {x : Str} {px : Pos} {ifs : List Expr} {scope : Scope} {pos : Pos} {cl : List (Str × Addr)} {J : It} {it : Addr} {fp : List Addr} {tn : Nat → Heap → Prop} {tt : TT} {te : TE} {fin : List V → Hp → Prop}
    {RR : Value → Addr → Result → Shared → Prop} (I : Inv X pins σ H s) (hcalm : X.calm = true) (ok : CompOk X.N X.env.scope scope x) (hN : (X.N ++ [x]).Nodup)
    (c1 : ∀ y c, cl.lookup y = some c → X.env.cells.lookup y = some c) (c2 : ∀ y, (y, NameKind.free) ∈ scope.names → ∃ c, cl.lookup y = some c)
    (T : Turn X.prog X.w X.K (.Name x px) J fp it tn) (st : tn 0 s.heap) (hf : ∀ b ∈ fp, FpOk X pins H b)
    (ht : ∀ C fp s₀ H₀, PTs (compCx X x scope cl C fp s₀ H₀) ifs tt) (he : ∀ C fp s₀ H₀, PE (compCx X x scope cl C fp s₀ H₀) elt te) (rd : CompRd J tt te fin σ H)
    (hR : ∀ (D C : Addr) (ys : List V) (H' : Hp) (s' : Shared), H' D = none → fin ys H' → Inv X pins σ (upd H' D (.lst ys)) s' → (∃ m, s'.heap.Ns C m) → FpOk X pins (upd H' D (.lst ys)) C → RR (.ref D) C (.ok .next) s') :
    wpAny (model X.prog X.w) X.A (newList []) (fun acc s₃ => wpAny (model X.prog X.w) X.A (newFunctionEnv scope X.env.globals cl [] X.env.qual none .none (some X.env)) (fun cenv s₄ =>
      codeAny (model X.prog X.w) X.A (.compStart (.ListComp elt [⟨.Name x px, iter, ifs, 0⟩] scope pos) 0 (.ref it) acc { cenv with scope := relabel scope X.env }) (RR acc cenv.locals) s₄) E s₃) E s := by
  refine wpAny_newObj_type (wpAny_newFunctionEnv ok.cell (by intro y hy; simp at hy) (fun h₁ hns₁ hsb₁ => ?_) ok.kind)
  dsimp only at hns₁ hsb₁ ⊢
  generalize hH2 : s.heap.push { cls := .type "list", dict := none, data := .seq ([] : List Value).toArray } = H2 at hns₁ hsb₁ ⊢
  have hC : H2.objs.size = s.heap.objs.size + 1 := by rw [← hH2, Heap.size_push]
  have hDC : s.heap.objs.size ≠ H2.objs.size := by rw [hC]; exact Nat.ne_of_lt (Nat.lt_succ_self _)
  have hCle : s.heap.objs.size ≤ H2.objs.size := by rw [hC]; exact Nat.le_succ _
  have below : ∀ b, b < s.heap.objs.size → b ≠ H2.objs.size ∧ b ≠ s.heap.objs.size := fun b hb => ⟨by rw [hC]; exact Nat.ne_of_lt (Nat.lt_succ_of_lt hb), Nat.ne_of_lt hb⟩
  have old : ∀ b o, s.heap.get? b = some o → h₁.get? b = some o := fun b o e => hsb₁.extBut b o (below b (Heap.lt_size e)).1 (Heap.get?_push_of_some _ (hH2 ▸ Heap.get?_push_of_some _ e))
  have hD : h₁.get? s.heap.objs.size = some (listAt [] 0) := hsb₁.extBut _ _ hDC (Heap.get?_push_of_some _ (hH2 ▸ Heap.get?_push_size _ rfl))
  have hfs : ∀ b ∈ fp, b < s.heap.objs.size := fun b hb => let ⟨_, e, _⟩ := T.obj 0 _ st b hb; Heap.lt_size e
  have hns₂ : h₁.Ns H2.objs.size fun _ => none := by
    have e : (fun x => ([] : List (Str × Value)).reverse.lookup x) = fun _ => none := rfl
    rw [e] at hns₁
    exact hns₁
  obtain ⟨W, ⟨m0, w0⟩, turn⟩ := rd
  generalize hDD : s.heap.objs.size = D at *
  generalize hCC : H2.objs.size = C at *
  have Dle : s.heap.objs.size ≤ D := Nat.le_of_eq hDD
  have loop : ∀ s₃ : Shared, s₃ = { s with heap := h₁, toks := s.toks + ([] : List (Str × Value)).length } →
      codeAny (model X.prog X.w) X.A (.compLoop (.ListComp elt [⟨.Name x px, iter, ifs, 0⟩] scope pos) 0 (.ref it) (.ref D) (compEnvC scope cl C X.env)) (RR (.ref D) C) s₃ := by
    rintro s₃ rfl
    have I0 : Inv (compCx X x scope cl C fp s H) [] (σ ++ [none]) H { s with heap := h₁, toks := s.toks + ([] : List (Str × Value)).length } :=
      comp_inv I ok c1 c2 hf (by rw [hDD]; exact hCle) hns₂ old rfl rfl (fun b hb => by rw [hDD]; exact hfs b hb)
    have cellD : ∀ y c, cl.lookup y = some c → c ≠ D := fun y c e z => by
      obtain ⟨v, q⟩ := I.cell y c (c1 y c e)
      exact absurd q.lt (by rw [z, ← hDD]; exact Nat.lt_irrefl _)
    have stat : ∀ {H' : Hp} {pl : List (Addr × Obj)}, (∀ p ∈ pl, p.1 = D) → (∀ b ∈ fp, H' b = none) → ∀ b ∈ fp, FpOk (compCx X x scope cl C fp s H) pl H' b := fun {H' pl} hpl hn b hb =>
      ⟨hn b hb, (below b (hfs b hb)).1, fun hb2 => by
        have hb2 : b ∈ frs X.stack := hb2
        rcases List.mem_cons.mp (I.stkSub b hb2) with z | z
        · exact (hf b hb).2.1 z
        · exact (hf b hb).2.2.1 z, .inl hb, fun y c e => (hf b hb).2.2.2.2.1 y c (c1 y c e), fun p hp => by
          have hp : p ∈ [] ++ pl := hp
          rw [hpl p (by simpa using hp)]
          exact Ne.symm (below b (hfs b hb)).2⟩
    have pinD : ∀ {σ' : St} {H' : Hp} {s' : Shared} {its : List Value} {c : Nat}, Inv (compCx X x scope cl C fp s H) [] σ' H' s' → s'.heap.get? D = some (listAt its c) → H' D = none → Inv (compCx X x scope cl C fp s H) [(D, listAt its c)] σ' H' s' := fun {σ' H' s' its c} I' e n =>
      I'.pins_of fun p hp => by
        have hp : p = (D, listAt its c) := by simpa using hp
        subst hp
        refine ⟨e, n, hDC, fun hb2 => ?_, fun v z => by cases z⟩
        have hb2 : D ∈ frs X.stack := hb2
        rcases List.mem_cons.mp (I.stkSub D hb2) with z | z
        · exact absurd I.lt (by rw [← z, ← hDD]; exact Nat.lt_irrefl _)
        · exact I.nofs Dle z
    refine codeAny_compLoop_tests (fun n s' => ∃ i v H' ys its c, Inv (compCx X x scope cl C fp s H) [] (σ ++ [v]) H' s' ∧ tn i s'.heap ∧ (∀ b ∈ fp, H' b = none) ∧ s'.heap.get? D = some (listAt its c) ∧ H' D = none ∧ Vals ys its ∧ ys.length ≤ sizeLine ∧ W i n ys H')
      ?_ m0 ⟨0, none, H, [], [], 0, I0, T.keep 0 _ _ st fun b _ o e => old b o e, fun b hb => (hf b hb).1, hD, I.hok.fresh Dle, .nil, Nat.zero_le _, w0⟩
    rintro n s' ⟨i, v, H', ys, its, c, I1, st1, fr1, e1, n1, r1, z1, w1⟩
    have I1p := pinD I1 e1 n1
    have fok1 := stat (H' := H') (pl := [(D, listAt its c)]) (fun p hp => by simp at hp; rw [hp]) fr1
    rcases turn i n ys H' w1 with ⟨stop, qf⟩ | ⟨go, step⟩
    · refine thn (T.done (compCx X x scope cl C fp s H) rfl rfl rfl hcalm i _ s' _ H' _ I1p fok1 st1 stop) fun r s2 ⟨hr, I2⟩ => ?_
      subst hr
      obtain ⟨e2, n2, _⟩ := I2.pin (D, listAt its c) (List.mem_append_right _ (by simp))
      have u2 : Un (frs X.stack) fp H H' s.heap s2.heap := I2.base
      have neD : ∀ b o, s.heap.get? b = some o → b ≠ D := fun b o e => (below b (by rw [← hDD]; exact Heap.lt_size e)).2
      have tD : ∀ b o, H' b = some o → b ≠ D := fun b o e z => by rw [z, n1] at e; cases e
      have hok2 : HOk X.prog X.w (upd H' D (.lst ys)) s2.heap := fun b o e => by
        by_cases hb : b = D
        · subst hb
          rw [upd_same] at e
          cases e
          exact ⟨z1, its, c, r1, e2⟩
        · rw [upd_ne hb] at e
          exact (I2.hok b o e).stay (fun _ _ _ q => q) (fun d q => by rw [upd_ne (tD d _ q)]; exact q) fun d xs q => by rw [upd_ne (tD d _ q)]; exact q
      have I3 : Inv X pins σ (upd H' D (.lst ys)) s2 := I.call' (ch := fp) (show s2.os = s.os from I2.os)
        ⟨u2.keep, u2.slot, fun b o e n hx => by rw [upd_ne (neD b o e)]; exact u2.free b o e n hx, u2.there, fun b xs e => by
          have q := u2.tups b xs e
          rw [upd_ne (tD b _ q)]; exact q, fun b o u e => by
          have q := u2.frzs b o u e
          rw [upd_ne (tD b _ q)]; exact q, fun b ps e => by
          obtain ⟨more, q⟩ := u2.tbls b ps e
          exact ⟨more, by rw [upd_ne (tD b _ q)]; exact q⟩⟩ hok2 I2.bare (fun b hb => ⟨(hf b hb).2.2.2.1, (hf b hb).2.1, (hf b hb).2.2.2.2.1, (hf b hb).2.2.2.2.2⟩)
      obtain ⟨m2, hm2, _⟩ := I2.loc
      exact hR D C ys H' s2 n1 qf I3 ⟨m2, hm2⟩ (I.fpOk (by rw [hDD]; exact hCle) (by rw [upd_ne (Ne.symm hDC)]; exact I2.free))
    · refine thn (T.item (compCx X x scope cl C fp s H) rfl rfl rfl hcalm i _ s' _ H' _ I1p fok1 st1 go) fun r s2 ⟨u, hr, h2⟩ => ?_
      subst hr
      have ea : assign (.Name x px) (compEnvC scope cl C X.env) u = (letOwnedTupleGo (.Name x px) (.ref it) u >>= fun _ => assign (.Name x px) (compEnvC scope cl C X.env) u) := rfl
      show wpAny _ _ (assign (.Name x px) (compEnvC scope cl C X.env) u) _ _ s2
      rw [ea]
      refine wpAny_bind (thn h2 fun _ s3 ⟨y, H3, I3, ry, yl, st3, fr3⟩ => ?_)
      obtain ⟨e3, n3, _⟩ := I3.pin (D, listAt its c) (List.mem_append_right _ (by simp))
      have I3p := I3.pinned (stat (pl := [(D, listAt its c)]) (fun p hp => by simp at hp; rw [hp]) fr3) (T.obj _ _ st3)
      have hxl : (relabel scope X.env).names.lookup x = some .local := lookup_relabel_local ok.own
      have hxi : (X.N ++ [x])[X.N.length]? = some x := by rw [List.getElem?_append_right (Nat.le_refl _), Nat.sub_self] <;> rfl
      have hset : (σ ++ [v]).set X.N.length (some y) = σ ++ [some y] := by
        rw [← I.len, List.set_append_right _ _ (Nat.le_refl _), Nat.sub_self] <;> rfl
      refine thnF (pg_name (X := compCx X x scope cl C fp s H) (i := X.N.length) (x := x) hN hxi (.inl hxl) (.inr hxl) _ s3 _ H3 y u (fun σ' H' => σ' = σ ++ [some y] ∧ H' = H3) I3p ry ⟨hset, rfl⟩) fun _ s4 ⟨σ4, H4, I4, hσ, hH⟩ => ?_
      subst hσ hH
      have back : ∀ {H6 : Hp} {s6 : Shared} {its' : List Value} {c' : Nat}, Inv (compCx X x scope cl C fp s H) (pinsAt fp s3.heap) (σ ++ [some y]) H6 s6 → s6.heap.get? D = some (listAt its' c') → H6 D = none → ∀ {ys' : List V} {m' : Nat}, Vals ys' its' → ys'.length ≤ sizeLine → m' < n → W (i + 1) m' ys' H6 →
          ∃ m, m < n ∧ ∃ i v H' ys its c, Inv (compCx X x scope cl C fp s H) [] (σ ++ [v]) H' s6 ∧ tn i s6.heap ∧ (∀ b ∈ fp, H' b = none) ∧ s6.heap.get? D = some (listAt its c) ∧ H' D = none ∧ Vals ys its ∧ ys.length ≤ sizeLine ∧ W i m ys H' :=
        fun {H6 s6 its' c'} I6 e6 n6 {ys' m'} r6 z6 lt6 w6 => by
          refine ⟨m', lt6, i + 1, some y, H6, ys', its', c', I6.pins_of (fun p hp => by simp at hp), T.keep _ _ _ st3 fun b hb o e => (I6.pin (b, o) (List.mem_append_right _ (mem_pinsAt hb e))).1, fun b hb => ?_, e6, n6, r6, z6, w6⟩
          obtain ⟨o, e, _⟩ := T.obj _ _ st3 b hb
          exact (I6.pin (b, o) (List.mem_append_right _ (mem_pinsAt hb e))).2.1
      refine thnF (ht C fp s H _ s4 _ H4 _ I4 (step y H4 yl)) fun b s5 ⟨H5, I5, q5⟩ => ?_
      obtain ⟨e5, n5, _⟩ := I5.pin (D, listAt its c) (List.mem_append_right _ (by simp))
      cases b with
      | false =>
        obtain ⟨m', lt, w5⟩ := (show ∃ m', m' < n ∧ W (i + 1) m' ys H5 from q5)
        exact back (I5.pins_of fun p hp => I5.pin p (List.mem_append_right _ (List.mem_append_right _ hp))) e5 n5 r1 z1 lt w5
      | true =>
        refine thnF (he C fp s H _ s5 _ H5 _ I5 q5) fun yv s6 ⟨z, H6, I6, rz, hl6, m', lt, w6⟩ => ?_
        obtain ⟨e6, n6, _⟩ := I6.pin (D, listAt its c) (List.mem_append_right _ (by simp))
        have hlen := r1.length
        refine call_meets F.slot_list_append ⟨_, e6, rfl⟩ F.entry_list_append (F.args_list_append_2 _ _) (PySem.list_append D its.toArray c yv (by rw [List.size_toArray]; omega)) ⟨e6, ?_⟩
        have q := PySem.IsL.update e6 (·.push yv)
        have I6' : Inv (compCx X x scope cl C fp s H) (pinsAt fp s3.heap) (σ ++ [some y]) H6 s6 := I6.pins_of fun p hp => I6.pin p (List.mem_append_right _ (List.mem_append_right _ hp))
        have I7 : Inv (compCx X x scope cl C fp s H) (pinsAt fp s3.heap) (σ ++ [some y]) H6 { s6 with heap := s6.heap.update D (Obj.mapSeq (·.push yv)) } :=
          I6'.turned (it := D) (t' := s6.toks) (fun b o hb e => (Heap.get?_update_other s6.heap (Obj.mapSeq (·.push yv)) (Ne.symm hb)).trans e) n6 hDC (.inr Dle) (fun y c e => cellD y c e) (fun p hp => by
            have hp : p ∈ [] ++ pinsAt fp s3.heap := hp
            obtain ⟨hb, _⟩ := of_pinsAt (show p ∈ pinsAt fp s3.heap by simpa using hp)
            exact (below _ (hfs _ hb)).2)
        exact back I7 (its' := its ++ [yv]) (by
          have q' := q
          simp only [List.push_toArray] at q'
          exact q') n6 (r1.append (.cons rz .nil)) (by rw [List.length_append, List.length_singleton]; omega) lt w6
  exact codeAny_compStart_list (loop _ rfl) (T.self X.A 0 _ _ _ (T.keep 0 _ _ st fun b _ o e => old b o e) (loop _ rfl))
def tComp (wi : TI) (tt : TT) (te : TE) : TE := fun σ H Q => wi σ H fun J H1 => CompRd J tt te (fun ys H2 => ∀ p, H2 p = none → Q (.ref p) (upd H2 p (.lst ys))) σ H1
theorem pe_comp {elt iter : Expr} {x : Str} {px : Pos} {ifs : List Expr} {scope : Scope} {pos : Pos} {wi : TI} {tt : TT} {te : TE} (N : List Str) (fs : Scope) (hcalm : X.calm = true) (ok : compOk N fs scope x = true) (hN : (N ++ [x]).Nodup) (hi : PI X (.Name x px) iter wi)
    (ht : ∀ cl C fp s₀ H₀, PTs (compCx X x scope cl C fp s₀ H₀) ifs tt) (he : ∀ cl C fp s₀ H₀, PE (compCx X x scope cl C fp s₀ H₀) elt te)
    (hs : ∀ x, foldedSetIterable iter X.env x = pure x := by intro _; rfl) (eN : X.N = N := by rfl) (eS : X.env.scope = fs := by rfl) : PE X (.ListComp elt [⟨.Name x px, iter, ifs, 0⟩] scope pos) (tComp wi tt te) := by
  intro pins s σ H Q I h
  subst eN eS
  have ok := CompOk.of ok
  obtain ⟨cl, hcl, c1, c2⟩ := closure_of (scope := scope) (env := X.env) fun y hy e => I.ok.has y.1 (ok.free y hy e)
  rw [eval_ListComp]
  refine wpAny_comprehension_free (use := none) rfl hs hcl ok.kind (fun y hy e => (ok.locs y hy e).1) (thn (hi pins s σ H _ I h) fun v s1 h1 => thn h1 fun itv s2 h2 => ?_)
  obtain ⟨it, fp, tn, J, H2, e, I2, T, st2, f2, rd⟩ := h2
  subst e
  refine comp_core (RR := fun acc C => compPost (model X.prog X.w) X.A X.xe none (EP X pins σ Q) acc C) I2 hcalm ok hN c1 c2 T st2 f2 (ht cl) (he cl) rd fun D C ys H' s' hD q I' hm fC => ?_
  obtain ⟨m, hm⟩ := hm
  refine ⟨m, hm, fun h' hs' => ⟨.ref D, _, I'.turned (t' := s'.toks) (fun b o hb e => (hs'.2 b hb).trans e) fC.1 fC.2.1 fC.2.2.2.1 fC.2.2.2.2.1 fC.2.2.2.2.2, rfl, q D hD⟩⟩
end
end L2
namespace L2
open PySem PySem.Spec PyProof.Rows
abbrev one (c : Nat) : Str := ⟨#[c]⟩
def Its (x : Str) : It := ⟨fun i _ => i < x.length, fun i H v H' => H' = H ∧ ∃ c, x.cps.toList[i]? = some c ∧ v = .str (one c), fun i _ => x.length ≤ i⟩
theorem turn_str {P : Program} {w : World} {K : PySem.W.Frag} {tg : Expr} (it : Addr) (ty : String) (x : Str) (t : Tok) (hW : ∀ A' : Around, A'.handled = none → Walks P w A' it [it] [it] x.cps.size (SignAt x) (fun i h => h.IsStrIter it ty x t i))
    (hn : ["enumerate", "zip", "dict_itemiterator", "dict_reverseitemiterator", "odict_iterator", "itertools.zip_longest", "itertools.pairwise"].contains ty = false)
    (hself : ∀ (A : Around) (i : Nat) (s : Shared) (Q : Value → Shared → Prop) (E : Value → Shared → Prop), s.heap.IsStrIter it ty x t i → Q (.ref it) s → wpAny (model P w) A (pyIter (.ref it)) Q E s) :
    Turn P w K tg (Its x) [it] it (fun i h => h.IsStrIter it ty x t i ∧ i ≤ x.length) where
  mem := by simp
  obj := fun i h st b hb => by
    have e : b = it := by simpa using hb
    subst e
    obtain ⟨⟨o, e, c, d⟩, _⟩ := st
    exact ⟨o, e, fun v z => by rw [d] at z; cases z⟩
  keep := fun i h h' st k => by
    obtain ⟨⟨o, e, c, d⟩, l⟩ := st
    exact ⟨⟨o, k it (by simp) o e, c, d⟩, l⟩
  item := by
    intro X hP hw hK hc i pins s σ H E I hf st hg
    subst hP hw hK
    obtain ⟨f0, f1, f2, f3, f4, f5⟩ := hf it (by simp)
    have hg : i < x.length := hg
    refine (hW X.A (I.ok.hd hc)).item i s _ _ hg st.1 fun v h' tk hv st' kk => ?_
    obtain ⟨c, u, hx, rfl⟩ := hv
    have I1 : Inv X pins σ H { s with heap := h', toks := tk } := I.turned (fun b o hb e => kk b o (by simpa using hb) e) f0 f1 f3 f4 f5
    obtain ⟨o, e, hcl, hd⟩ := id st'
    refine ⟨_, rfl, go_of (s := { s with heap := h', toks := tk }) e hcl hd hn ⟨.str (one c), H, I1, ⟨u, rfl⟩, ⟨rfl, c, by simpa using hx, rfl⟩, ⟨st', hg⟩, fun b hb => (hf b hb).1⟩⟩
  done := by
    intro X hP hw hK hc i pins s σ H E I hf st hg
    subst hP hw hK
    obtain ⟨f0, f1, f2, f3, f4, f5⟩ := hf it (by simp)
    have e : i = x.cps.size := Nat.le_antisymm st.2 hg
    subst e
    exact (hW X.A (I.ok.hd hc)).done s _ _ st.1 fun h' tk kk => ⟨rfl, I.turned (fun b o hb e => kk b o (by simpa using hb) e) f0 f1 f3 f4 f5⟩
  self := fun A i s Q E st h => hself A i s Q E st.1 h
section
variable {X : Cx} {tg : Expr}
def iStr (te : TE) : TI := fun σ H R => te σ H fun v H1 => ∃ x, v = .str x ∧ R (Its x) H1
theorem pi_str {e : Expr} {te : TE} (he : PE X e te) : PI X tg e (iStr te) := by
  intro pins s σ H R I h
  refine thn (he pins s σ H _ I h) fun v s1 ⟨y, H1, I1, r1, q1⟩ => ?_
  obtain ⟨x, rfl, q⟩ := q1
  obtain ⟨t, rfl⟩ := r1
  have fok : ∀ b ∈ [s1.heap.objs.size], FpOk X pins H1 b := fun b hb => by
    have e : b = s1.heap.objs.size := by simpa using hb
    subst e
    exact I1.fpOk (Nat.le_refl _) (I1.hok.fresh (Nat.le_refl _))
  cases ha : x.cps.all (· < 128)
  · refine wpAny_pyIter_wide ha ?_
    exact ⟨s1.heap.objs.size, [s1.heap.objs.size], _, _, H1, rfl, I1.kept (t' := s1.toks) fun b o e => Heap.get?_push_of_some _ e,
      turn_str _ "str_iterator" x t (fun A' hA => Walks.strWide hA _ x t) (by decide) (fun A i s Q E st h => wpAny_pyIter_striter_wide st h), ⟨⟨_, Heap.get?_push_size _ rfl, rfl, rfl⟩, Nat.zero_le _⟩, fok, q⟩
  · refine wpAny_pyIter_ascii ha ?_
    exact ⟨s1.heap.objs.size, [s1.heap.objs.size], _, _, H1, rfl, I1.kept (t' := s1.toks) fun b o e => Heap.get?_push_of_some _ e,
      turn_str _ "str_ascii_iterator" x t (fun A' hA => Walks.strAscii hA _ x t) (by decide) (fun A i s Q E st h => wpAny_pyIter_striter_ascii st h), ⟨⟨_, Heap.get?_push_size _ rfl, rfl, rfl⟩, Nat.zero_le _⟩, fok, q⟩
end
theorem yes_rd {σ : St} {H : Hp} {Q : Bool → Hp → Prop} (q : Q true H) : tYes σ H Q := q
theorem comprd_by {J : It} {te : TE} {fin : List V → Hp → Prop} {σ : St} {H : Hp} (ys : List V) (Pv : Nat → Hp → Prop) (hz : ys.length ≤ sizeLine) (h0 : Pv 0 H) (hgo : ∀ i H, i < ys.length → Pv i H → J.go i H) (hst : ∀ H, Pv ys.length H → J.stop ys.length H)
    (step : ∀ i y H x H', ys[i]? = some y → Pv i H → J.yld i H x H' → te (σ ++ [some x]) H' fun z H3 => z = y ∧ Pv (i + 1) H3) (hd : ∀ H, Pv ys.length H → fin ys H)
    (mono : ∀ σ H Q Q', (∀ v H1, Q v H1 → Q' v H1) → te σ H Q → te σ H Q') : CompRd J tYes te fin σ H := by
  refine ⟨fun i m zs H => m = ys.length - i ∧ i ≤ ys.length ∧ zs = ys.take i ∧ Pv i H, ⟨_, rfl, Nat.zero_le _, by simp, h0⟩, ?_⟩
  rintro i m zs H ⟨rfl, hi, rfl, p⟩
  by_cases hlt : i < ys.length
  · refine .inr ⟨hgo i H hlt p, fun x H' y => ?_⟩
    refine yes_rd (iteT ?_)
    refine mono _ _ _ _ (fun v H1 q => ?_) (step i ys[i] H x H' (List.getElem?_eq_getElem hlt) p y)
    obtain ⟨e, p'⟩ := q
    refine ⟨by rw [List.length_take]; omega, ys.length - (i + 1), by omega, rfl, hlt, ?_, p'⟩
    rw [List.take_add_one, List.getElem?_eq_getElem hlt, e] <;> rfl
  · have e : i = ys.length := by omega
    subst e
    refine .inl ⟨hst H p, ?_⟩
    rw [List.take_length]
    exact hd H p
def cutC (x : Str) (lo hi : Option Int) : List Nat := (x.cps.toList.drop (HT.sIx x.length 0 lo)).take (HT.sIx x.length x.length hi - HT.sIx x.length 0 lo)
theorem slice_cut (x : Str) (lo hi : Option Int) : Txt.slice x lo hi = ⟨(cutC x lo hi).toArray⟩ := by
  obtain ⟨h1, h2, h3⟩ := slice_bounds lo hi x.length
  have hle : HT.sIx x.length x.length hi ≤ x.length := HT.sIx_le _ _ (Nat.le_refl _) _
  have e1 : Builtin.Str.strSliceIndices lo hi 1 x.length = Builtin.Str.strSliceIndices (some ((HT.sIx x.length 0 lo : Nat) : Int)) (some ((HT.sIx x.length x.length hi : Nat) : Int)) 1 x.length := by
    have hle0 : HT.sIx x.length 0 lo ≤ x.length := HT.sIx_le _ _ (Nat.zero_le _) _
    have q : ∀ (o : Option Int) (d : Nat), d ≤ x.length → (match o with | none => (d : Int) | some i => let i := if i < 0 then i + (x.length : Int) else i; max 0 (min i (x.length : Int))) = ((HT.sIx x.length d o : Nat) : Int) := by
      intro o d hd
      cases o with
      | none => rfl
      | some i =>
        simp only [HT.sIx]
        by_cases h : i < 0
        · simp only [h, if_true] <;> omega
        · simp only [h, if_false] <;> omega
    have ql := q lo 0 (Nat.zero_le _)
    have qh := q hi x.length (Nat.le_refl _)
    have ql' := q (some ((HT.sIx x.length 0 lo : Nat) : Int)) 0 (Nat.zero_le _)
    have qh' := q (some ((HT.sIx x.length x.length hi : Nat) : Int)) x.length (Nat.le_refl _)
    rw [HT.sIx_nat, Nat.min_eq_left hle0] at ql'
    rw [HT.sIx_nat, Nat.min_eq_left hle] at qh'
    unfold Builtin.Str.strSliceIndices
    simp only [show (1 : Int) > 0 by decide, if_true]
    simp only [] at ql qh ql' qh'
    first
      | (rw [ql', qh']; exact congrArg₂ (fun a b => sliceRange a b 1) ql qh)
      | (congr 1 <;> first | exact ql.trans ql'.symm | exact qh.trans qh'.symm)
  by_cases hc : HT.sIx x.length 0 lo ≤ HT.sIx x.length x.length hi
  · have e2 := StrLaws.sliceText_nat x hc hle
    unfold Txt.slice
    unfold StrLaws.sliceText at e2
    rw [e1]
    exact e2
  · have e3 : Builtin.Str.strSliceIndices (some ((HT.sIx x.length 0 lo : Nat) : Int)) (some ((HT.sIx x.length x.length hi : Nat) : Int)) 1 x.length = [] := by
      have hle0 : HT.sIx x.length 0 lo ≤ x.length := HT.sIx_le _ _ (Nat.zero_le _) _
      have a1 : ¬ (((HT.sIx x.length 0 lo : Nat) : Int) < 0) := by omega
      have a2 : ¬ (((HT.sIx x.length x.length hi : Nat) : Int) < 0) := by omega
      have b1 : max (0 : Int) (min ((HT.sIx x.length 0 lo : Nat) : Int) (x.length : Int)) = ((HT.sIx x.length 0 lo : Nat) : Int) := by omega
      have b2 : max (0 : Int) (min ((HT.sIx x.length x.length hi : Nat) : Int) (x.length : Int)) = ((HT.sIx x.length x.length hi : Nat) : Int) := by omega
      simp only [Builtin.Str.strSliceIndices, sliceRange, a1, a2, if_false, b1, b2, show ((1 : Int) > 0) = True from by simp, if_true]
      rw [if_neg (by omega)] <;> rfl
    unfold Txt.slice
    rw [e1, e3]
    have e4 : HT.sIx x.length x.length hi - HT.sIx x.length 0 lo = 0 := by omega
    unfold cutC
    rw [e4, List.take_zero]
    split
    · rename_i h
      have h0 : x.length = 0 := by
        have h' : (0 : Nat) = x.length := by simpa using h
        exact h'.symm
      have : x.cps = #[] := Array.eq_empty_of_size_eq_zero h0
      cases x
      simp_all
    · rfl
section
variable {X : Cx}
def rSlS : V → Option Int → Option Int → Hp → VK → Prop := fun x lo hi H Q => ∃ z, x = .str z ∧ z.length ≤ sizeLine ∧ Q (.str ⟨(cutC z lo hi).toArray⟩) H
theorem part_value {v : Value} {o : Option Int} (p : IsPart v o) : ∃ q, v = partValue q ∧ q.map (·.1) = o := by
  cases p with
  | none => exact ⟨none, rfl, rfl⟩
  | int i t => exact ⟨some (i, t), rfl, rfl⟩
theorem sl_str : SlR X rSlS := by
  intro pins s σ H x v vl vu lo hi sl Q I rx hs pl pu h
  obtain ⟨z, rfl, hz, q⟩ := h
  obtain ⟨t, rfl⟩ := rx
  obtain ⟨ql, rfl, el⟩ := part_value pl
  obtain ⟨qu, rfl, eu⟩ := part_value pu
  refine ⟨"str", _, F.slot_str_getitem.lookup, typeIs_str _ _ _, ?_⟩
  refine wpAny_getItem_str_slice (l := ql) (u := qu) (st := none) hs rfl ?_
  have fin : ∀ t' k, EP X pins σ Q (.str (Txt.slice z lo hi) t') { s with toks := k } := fun t' k => ⟨.str ⟨(cutC z lo hi).toArray⟩, H, I.tok _, ⟨t', by rw [slice_cut]⟩, q⟩
  unfold sliceMade slicePicked
  rw [el, eu]
  exact post_val_or_str ⟨Nat.le_trans (Txt.slice_le z lo hi) hz, fin⟩
theorem strsAre_of : ∀ {ys : List Str} {us : List Value}, Vals (ys.map V.str) us → StrsAre us ys := by
  intro ys
  induction ys with
  | nil => intro us r; cases r; exact .nil
  | cons y r ih =>
    intro us rr
    cases rr with
    | cons r1 r2 =>
      obtain ⟨t, rfl⟩ := r1
      exact .cons y t (ih r2)
def rJoin (K : PySem.W.Frag) : V → List V → Hp → VK → Prop := fun x vs H Q => ∃ (z : Str) (l : Addr) (ys : List Str), x = .str z ∧ vs = [.ref l] ∧ (SqL K H l (ys.map V.str) ∨ SqT K H l (ys.map V.str)) ∧ (ys.map (·.length)).sum + ys.length * z.length ≤ 16777216 ∧ Q (.str (Str.join z ys)) H
theorem mt_join : MtR X "str.join" (rJoin X.K) := by
  intro pins s σ H x vs v us Q I rx rv h
  obtain ⟨z, l, ys, rfl, rfl, hq, hok, q⟩ := h
  obtain ⟨t, rfl⟩ := rx
  obtain ⟨u, rfl, ru⟩ := vals1 rv
  cases ru
  have fin : ∀ t' k, EP X pins σ Q (.str (Txt.join z ys) t') { s with toks := k } := fun t' k => ⟨.str (Str.join z ys), H, I.tok _, ⟨t', by show Value.str (PySem.Builtin.Str.glued z ys) t' = _; rw [StrLaws.glued_eq_join]⟩, q⟩
  rcases hq with hq | hq
  · obtain ⟨its, r, ht, hz⟩ := I.list hq
    exact join_list ht.isList (strsAre_of r) hok fin
  · obtain ⟨its, r, ht, hz⟩ := I.tuple hq
    exact join_tuple ht (strsAre_of r) hok fin
theorem call_all_bools (hc : X.calm = true) : CallR X (.builtin "all") (fun xs H Q => ∃ (p : Addr) (bs : List Bool), xs = [.ref p] ∧ H p = some (.lst (bs.map V.bl)) ∧ Q (.bl (bs.all id)) H) := by
  intro pins s σ H xs us Q I r h
  obtain ⟨p, bs, rfl, hp, q⟩ := h
  obtain ⟨u, rfl, ru⟩ := vals1 r
  cases ru
  obtain ⟨its, rv, ht, hz⟩ := I.list (SqL.of (K := X.K) hp)
  have hlen : its.length = bs.length := by rw [← rv.length, List.length_map]
  refine call_all_walk (wpAny_pyIter_list ht.isList ?_)
  have hne : p ≠ s.heap.objs.size := Nat.ne_of_lt (I.hok.lt hp)
  refine ⟨s.heap.objs.size, _, _, _, _, _, fun i => bs.getD i false, rfl, Walks.list (show X.A.in1.handled = none from I.ok.hd hc) _ p hne its.toArray, ⟨⟨_, Heap.get?_push_size _ rfl, rfl, rfl⟩, ?_⟩, ?_, ?_⟩
  · obtain ⟨o, e, c⟩ := ht.isList
    exact ⟨o, Heap.get?_push_of_some _ e, c⟩
  · intro i v s' Q' E' hv hq
    have hv : its[i]? = some v := by simpa using hv
    have hi : i < its.length := (List.getElem?_eq_some_iff.mp hv).1
    obtain ⟨w, hw, rw'⟩ := rv.get (i := i) (x := V.bl (bs.getD i false)) (by
      rw [List.getElem?_map, List.getElem?_eq_getElem (by omega), List.getD_eq_getElem?_getD, List.getElem?_eq_getElem (by omega)] <;> rfl)
    rw [hv] at hw
    cases hw
    cases rw'
    exact wpAny_truthy_bool hq
  · intro h' tk hk
    have e : (List.range its.toArray.size).all (fun i => bs.getD i false) = bs.all id := by
      rw [List.size_toArray, hlen]
      rw [Bool.eq_iff_iff, List.all_eq_true, List.all_eq_true]
      constructor
      · intro a b hb
        obtain ⟨i, hi, e⟩ := List.mem_iff_getElem.mp hb
        have := a i (List.mem_range.mpr hi)
        rw [List.getD_eq_getElem?_getD, List.getElem?_eq_getElem hi, e] at this
        exact this
      · intro a i hi
        have hi := List.mem_range.mp hi
        rw [List.getD_eq_getElem?_getD, List.getElem?_eq_getElem hi]
        exact a _ (List.getElem_mem hi)
    rw [e]
    refine ⟨.bl _, H, I.kept (t' := tk) fun b o e => hk b o ?_ (Heap.get?_push_of_some _ e), rfl, q⟩
    intro hb
    have : b = s.heap.objs.size := by simpa using hb
    rw [this] at e
    exact absurd (Heap.lt_size e) (Nat.lt_irrefl _)
def clsV : V → Option Value
  | .ty n => some (.type n)
  | .ref a => some (.ref a)
  | _ => none
def rIsi (K : PySem.W.Frag) : List V → Hp → VK → Prop := fun xs H Q => ∃ x c t cv b, xs = [x, c] ∧ clsV c = some cv ∧ TyOf K H x t ∧ PySem.W.kitOne K t cv = some b ∧ Q (.bl b) H
theorem call_isi : CallR X (.builtin "isinstance") (rIsi X.K) := by
  intro pins s σ H xs us Q I r h
  obtain ⟨x, c, t, cv, b, rfl, hc, ty, e, q⟩ := h
  obtain ⟨u, w', rfl, rx, rc⟩ := vals2 r
  have ec : w' = cv := by
    cases c with
    | ty n => cases hc; exact rc
    | ref a => cases hc; exact rc
    | _ => cases hc
  subst ec
  exact isinst_ok I rx ty e fun tk => ⟨.bl b, H, I.tok _, rfl, q⟩
end
end L2
namespace L2
open PySem PySem.Spec PyProof.Rows
end L2
namespace L2
open PySem PySem.Spec PyProof.Rows
structure Def (P : Program) (w : World) (K : PySem.W.Frag) (mg : Str → Option Value) (base : Heap) (CX : CXT) (k : Nat) (x : Str) (ps : List Str) (sp : Sp) : Prop where
  ex : ∃ (f : Addr) (fd : FuncData), FnOk P w K mg base CX k f fd ps sp ∧ Binds K fd ps [] ∧ PySem.W.keepIn K (.ref f) = true ∧ mg x = some (.ref f)
theorem Def.mk' {P : Program} {w : World} {K : PySem.W.Frag} {mg : Str → Option Value} {base : Heap} {CX : CXT} {k : Nat} {x : Str} {ps : List Str} {sp : Sp} {f : Addr} {fd : FuncData} (F : FnOk P w K mg base CX k f fd ps sp) (b : Binds K fd ps []) (kp : PySem.W.keepIn K (.ref f) = true) (m : mg x = some (.ref f)) :
    Def P w K mg base CX k x ps sp := ⟨f, fd, F, b, kp, m⟩
section
variable {X : Cx} {CX : CXT} {k : Nat} {x : Str} {ps : List Str} {sp : Sp} {E : XK} {p pos : Pos} {e : Expr} {es : List Expr} {t : TA}
theorem pe_defE (D : Def X.prog X.w X.K X.mg X.base CX k x ps sp) (hr : Room k X.A) (hx : Passes CX X E) (ha : PA X (e :: es) t) (hg : Gl X x := by rfl) (hdb : (x == ("__debug__" : Str)) = false := by decide)
    (he : starEach (e :: es) X.env = (false, eval e X.env) :: starEach es X.env := by rfl) (hpl : (backTo pos (starEach es X.env)).any (·.1) = false := by rfl) : PE X (.Call (.Name x p) (e :: es) [] pos) (tCall sp [] E t) := by
  obtain ⟨f, fd, F, b, kp, m⟩ := D.ex
  exact pe_call F hr hg m kp b .nil hx ha hdb he hpl
theorem pe_def (D : Def X.prog X.w X.K X.mg X.base CX0 k x ps sp) (hr : Room k X.A) (ha : PA X (e :: es) t) (hg : Gl X x := by rfl) (hdb : (x == ("__debug__" : Str)) = false := by decide)
    (he : starEach (e :: es) X.env = (false, eval e X.env) :: starEach es X.env := by rfl) (hpl : (backTo pos (starEach es X.env)).any (·.1) = false := by rfl) : PE X (.Call (.Name x p) (e :: es) [] pos) (tCall sp [] E0 t) :=
  pe_defE D hr pass0 ha hg hdb he hpl
end
end L2
namespace L2
open PySem PySem.Spec PyProof.Rows
structure Fly (P : Program) (w : World) (l : List Env) (H H' : Hp) (s s' : Shared) (e : Addr) (C : Value) : Prop where
  fl : ∃ B a0, Heap.FlyingW B l e C a0 s'.heap ∧ HOk P w H' B ∧ (∀ b o, s.heap.get? b = some o → H b = none → b ∉ frs l → B.get? b = some o) ∧ ∀ b o, s.heap.get? b = some o → b ∉ frs l → ∃ o', B.get? b = some o'
  os : s'.os = s.os
  bare : AllBare s'.gens
  slot : ∀ b o, s.heap.get? b = some o → H b = none → b ∈ frs l → ∃ sl, s'.heap.get? b = some { o with slots := sl }
  free : ∀ b o, s.heap.get? b = some o → H b = none → H' b = none
  tups : ∀ b xs, H b = some (.tup xs) → H' b = some (.tup xs)
  frzs : ∀ b o u, H b = some (.frz o u) → H' b = some (.frz o u)
  tbls : ∀ b ps, H b = some (.tbl ps) → ∃ more, H' b = some (.tbl (ps ++ more))
  new : H' e = none ∧ s.heap.get? e = none
def CXX (P : Program) (w : World) : CXT := fun outer H s E ev s' => ∃ e C H', ev = .ref e ∧ Fly P w outer H H' s s' e C ∧ E C none H'
theorem Fly.there {P : Program} {w : World} {l : List Env} {H H' : Hp} {s s' : Shared} {e : Addr} {C : Value} (F : Fly P w l H H' s s' e C) (b : Addr) (o : Obj) (q : s.heap.get? b = some o) : ∃ o', s'.heap.get? b = some o' := by
  obtain ⟨B, a0, fl, _, _, c2⟩ := F.fl
  by_cases hb : b ∈ frs l
  · obtain ⟨_, o', ho', _⟩ := fl.2.2.1.mem hb
    exact ⟨o', ho'⟩
  · obtain ⟨o', r⟩ := c2 b o q hb
    exact ⟨o', fl.1 b o' r⟩
theorem frs_mem {l : List Env} {h base : Heap} (F : h.FunFrames base l) {b : Addr} (hb : b ∈ frs l) : ∃ o, h.get? b = some o ∧ ∀ vs, o.data ≠ .fields vs := by
  obtain ⟨_, o, ho, hd⟩ := F.mem hb
  exact ⟨o, ho, hd⟩
section
variable {P : Program} {w : World} {K : PySem.W.Frag} {mg : Str → Option Value} {base : Heap} {N : List Str} {qual : Str} {scope : Scope} {f : Addr} {cd : Value} {A : Around} {outer : List Env} {s₀ : Shared} {H₀ : Hp} {E : XK}
theorem passes_def {E1 : XK} (hE : ∀ C d H, E1 C d H → E C d H) : Passes (CXX P w) (cxOf (CXX P w) P w K mg base N qual scope f cd A outer s₀ H₀ E) E1 := by
  intro pins σ H s ev s' I hx
  obtain ⟨e, C, H', rfl, F, q⟩ := hx
  have hL : ∀ b o, s₀.heap.get? b = some o → b ≠ s₀.heap.objs.size := fun b o q => Nat.ne_of_lt (Heap.lt_size q)
  have F : Fly P w (envOfC qual scope s₀.heap.objs.size f cd :: outer) H H' s s' e C := F
  obtain ⟨B, a0, fl, okB, cov, cov2⟩ := F.fl
  have into : ∀ b, b ∈ frs outer → b ∈ frs (envOfC qual scope s₀.heap.objs.size f cd :: outer) := fun b hb => by
    obtain ⟨ev, he, hf⟩ := List.mem_filterMap.mp hb
    exact List.mem_filterMap.mpr ⟨ev, List.mem_cons_of_mem _ he, hf⟩
  have notIn : ∀ b o, s₀.heap.get? b = some o → b ∉ frs outer → b ∉ frs (envOfC qual scope s₀.heap.objs.size f cd :: outer) := fun b o q n z => by
    obtain ⟨ev, he, hf⟩ := List.mem_filterMap.mp z
    rcases List.mem_cons.mp he with y | y
    · subst y
      exact hL b o q (Option.some.inj hf).symm
    · exact n (List.mem_filterMap.mpr ⟨ev, y, hf⟩)
  show wpAny (model P w) (A.deeper (envOfC qual scope s₀.heap.objs.size f cd)) (leaving (envOfC qual scope s₀.heap.objs.size f cd) (.ref e)) _ _ s'
  refine wpAny_leaves_onW (outer := outer) I.ok.frames rfl fl fun h2 fl2 up => ?_
  have upF : ∀ b o, s'.heap.get? b = some o → b ∈ frs (envOfC qual scope s₀.heap.objs.size f cd :: outer) → ∃ sl, h2.get? b = some { o with slots := sl } := fun b o q hb => by
    obtain ⟨o', ho', hd⟩ := frs_mem fl.2.2.1 hb
    rw [q] at ho'
    cases ho'
    exact up b o q hd
  refine ⟨e, C, H', rfl, ⟨⟨B, a0, fl2, okB, fun b o q n nf => ?_, fun b o q nf => ?_⟩, F.os.trans I.os, F.bare, fun b o q n hf => ?_, fun b o q n => ?_, fun b xs r => F.tups b xs (I.base.tups b xs r), fun b o u r => F.frzs b o u (I.base.frzs b o u r), fun b ps r => ?_, F.new.1, ?_⟩, hE C none H' q⟩
  · exact cov b o (I.base.keep b o q n nf (by simp [cxOf])) (I.base.free b o q n (by simp [cxOf])) (notIn b o q nf)
  · obtain ⟨o', r⟩ := I.base.there b o q (by simp [cxOf])
    exact cov2 b o' r (notIn b o q nf)
  · obtain ⟨sl, r⟩ := I.base.slot b o q n hf (by simp [cxOf])
    obtain ⟨sl1, r1⟩ := F.slot b _ r (I.base.free b o q n (by simp [cxOf])) (into b hf)
    obtain ⟨sl2, r2⟩ := upF b _ r1 (into b hf)
    exact ⟨sl2, r2⟩
  · obtain ⟨o', r⟩ := I.base.there b o q (by simp [cxOf])
    exact F.free b o' r (I.base.free b o q n (by simp [cxOf]))
  · obtain ⟨m1, r1⟩ := I.base.tbls b ps r
    obtain ⟨m2, r2⟩ := F.tbls b _ r1
    exact ⟨m1 ++ m2, by rw [r2, Array.append_assoc]⟩
  · cases z : s₀.heap.get? e with
    | none => rfl
    | some o =>
      obtain ⟨o', r⟩ := I.base.there e o z (by simp [cxOf])
      rw [F.new.2] at r
      cases r
end
end L2
namespace L2
open PySem PySem.Spec PyProof.Rows
abbrev Cx.inTry (X : Cx) (pn : List (Addr × Obj)) (E : Value → Shared → Prop) : Cx := { X with pn := pn, xe := E }
abbrev Cx.inSuite (X : Cx) (e : Addr) : Cx := { X with A := X.A.mark (some (.ref e)), calm := false, xe := fun _ _ => False }
section
variable {X : Cx} {pins : List (Addr × Obj)} {σ : St} {H : Hp} {s : Shared}
theorem Cx.Ok.inTry (ok : X.Ok) (pn : List (Addr × Obj)) (E : Value → Shared → Prop) : (X.inTry pn E).Ok :=
  ⟨ok.mod, ok.kind, ok.glob, ok.blt, ok.above, ok.inj, ok.has, ok.cab, ok.hd, ok.frames, ok.stk, ok.exf, ok.bs, ok.bsz, ok.noex, ok.exfs, ok.funs, ok.frf⟩
theorem Cx.Ok.inSuite (ok : X.Ok) (e : Addr) : (X.inSuite e).Ok :=
  ⟨ok.mod, ok.kind, ok.glob, ok.blt, ok.above, ok.inj, ok.has, ok.cab, fun z => absurd (show false = true from z) (by decide), ok.frames, ok.stk, ok.exf, ok.bs, ok.bsz, ok.noex, ok.exfs, ok.funs, ok.frf⟩
theorem Inv.inTry (I : Inv X pins σ H s) (E : Value → Shared → Prop) : Inv (X.inTry (X.pn ++ pins) E) [] σ H s :=
  ⟨I.ok.inTry _ _, I.os, I.bare, I.base, I.loc, I.cell, I.free, I.freeC, fun p hp => I.pin p (by simpa using hp), I.hok, I.len⟩
theorem Inv.ofTry {pn ps : List (Addr × Obj)} {E : Value → Shared → Prop} (ok : X.Ok) (I : Inv (X.inTry (X.pn ++ pn) E) ps σ H s) : Inv X pn σ H s :=
  ⟨ok, I.os, I.bare, I.base, I.loc, I.cell, I.free, I.freeC, fun p hp => I.pin p (List.mem_append_left _ hp), I.hok, I.len⟩
theorem Inv.inSuite (I : Inv X pins σ H s) (e : Addr) : Inv (X.inSuite e) pins σ H s :=
  ⟨I.ok.inSuite e, I.os, I.bare, I.base, I.loc, I.cell, I.free, I.freeC, I.pin, I.hok, I.len⟩
theorem Inv.ofSuite {e : Addr} (ok : X.Ok) (I : Inv (X.inSuite e) pins σ H s) : Inv X pins σ H s :=
  ⟨ok, I.os, I.bare, I.base, I.loc, I.cell, I.free, I.freeC, I.pin, I.hok, I.len⟩
theorem Inv.land {H' : Hp} {s' : Shared} {e : Addr} {C a0 : Value} {B h3 : Heap} {t' : Nat} (I : Inv X pins σ H s) (F : Fly X.prog X.w X.stack H H' s s' e C) (fl : Heap.FlyingW B X.stack e C a0 s'.heap) (okB : HOk X.prog X.w H' B)
    (c1 : ∀ b o, s.heap.get? b = some o → H b = none → b ∉ frs X.stack → B.get? b = some o) (c2 : ∀ b o, s.heap.get? b = some o → b ∉ frs X.stack → ∃ o', B.get? b = some o') (st : B.StaysIn h3) (up : s'.heap.UpToSlots h3) :
    Inv X pins σ H' { s' with heap := h3, toks := t' } := by
  have upF : ∀ b o, s'.heap.get? b = some o → b ∈ frs X.stack → ∃ sl, h3.get? b = some { o with slots := sl } := fun b o q hb => by
    obtain ⟨o', ho', hd⟩ := frs_mem fl.2.2.1 hb
    rw [q] at ho'
    cases ho'
    exact up b o q hd
  refine I.call' (s' := { s' with heap := h3, toks := t' }) (ch := []) F.os ⟨fun b o q n hb _ => st b o (c1 b o q n hb), fun b o q n hb _ => ?_, fun b o q n _ => F.free b o q n, fun b o q _ => ?_, F.tups, F.frzs, F.tbls⟩ (okB.kept st) F.bare (fun _ z => nomatch z)
  · obtain ⟨sl, r⟩ := F.slot b o q n hb
    obtain ⟨sl2, r2⟩ := upF b _ r hb
    exact ⟨sl2, r2⟩
  · by_cases hb : b ∈ frs X.stack
    · obtain ⟨o', ho', hd⟩ := frs_mem fl.2.2.1 hb
      obtain ⟨sl, r⟩ := up b o' ho' hd
      exact ⟨_, r⟩
    · obtain ⟨o', r⟩ := c2 b o q hb
      exact ⟨o', st b o' r⟩
theorem SP.ofSuite {e : Addr} {D : Ends} {f : Flow} (ok : X.Ok) (q : SP (X.inSuite e) pins D f s) : SP X pins D f s := by
  cases f with
  | next => obtain ⟨σ1, H1, J, q⟩ := q; exact ⟨σ1, H1, Inv.ofSuite ok J, q⟩
  | brk => obtain ⟨σ1, H1, J, q⟩ := q; exact ⟨σ1, H1, Inv.ofSuite ok J, q⟩
  | cont => obtain ⟨σ1, H1, J, q⟩ := q; exact ⟨σ1, H1, Inv.ofSuite ok J, q⟩
  | ret u => obtain ⟨v, σ1, H1, J, r, q⟩ := q; exact ⟨v, σ1, H1, Inv.ofSuite ok J, r, q⟩
theorem SP.ofTry {pn : List (Addr × Obj)} {E : Value → Shared → Prop} {D : Ends} {f : Flow} (ok : X.Ok) (q : SP (X.inTry (X.pn ++ pn) E) [] D f s) : SP X pn D f s := by
  cases f with
  | next => obtain ⟨σ1, H1, J, q⟩ := q; exact ⟨σ1, H1, Inv.ofTry ok J, q⟩
  | brk => obtain ⟨σ1, H1, J, q⟩ := q; exact ⟨σ1, H1, Inv.ofTry ok J, q⟩
  | cont => obtain ⟨σ1, H1, J, q⟩ := q; exact ⟨σ1, H1, Inv.ofTry ok J, q⟩
  | ret u => obtain ⟨v, σ1, H1, J, r, q⟩ := q; exact ⟨v, σ1, H1, Inv.ofTry ok J, r, q⟩
theorem looks_type {M : Model} {h : Heap} {e : Addr} {o : Obj} (q : h.get? e = some o) : PySem.W.Looks M h (typeOf (.ref e)) o.cls := (PySem.W.Looks.ld q).andThen .now
def tTry (K : PySem.W.Frag) (n : Nat) (Ex : XK) (cv : Value) (tb ts : TS) : TS := fun D σ H => (∀ (C : Value) (d : Option Addr) (H' : Hp) (σ' : St), Ex C d H' → σ'.length = n → PySem.W.exmOne K C cv = some true ∧ ts D σ' H') ∧ tb D σ H
theorem ps_try {Ex : XK} {body suite : List Stmt} {b₀ : Stmt} {x : Str} {np hpos pos : Pos} {cv : Value} {tb ts : TS} (hstk : X.stack = X.env :: X.outer) (hfr : X.env.frame = some X.env.locals) (hg : Gl X x) (hm : X.mg x = some cv)
    (hb : ∀ pn E', Passes (CXX X.prog X.w) (X.inTry pn E') Ex → PSs (X.inTry pn E') body tb) (hs : ∀ e, PSs (X.inSuite e) (b₀ :: suite) ts) (hd : (x == ("__debug__" : Str)) = false := by decide) :
    PS X (.Try body [.ExceptHandler (some (.Name x np)) none (b₀ :: suite) hpos] [] [] pos) (tTry X.K X.N.length Ex cv tb ts) := by
  intro pins s σ H D I h
  obtain ⟨hh, ht⟩ := h
  refine wpAny_Try_except ?_
  have I1 := I.inTry (fun e s₁ => wpAny (model X.prog X.w) X.A (noteFrame e X.env) (fun _ s₂ => wpAny (model X.prog X.w) X.A (setFlight e none) (fun _ s₃ => wpAny (model X.prog X.w) X.A (handleBy e X.env [.ExceptHandler (some (.Name x np)) none (b₀ :: suite) hpos]) (SP X pins D) X.xe s₃) X.xe s₂) X.xe s₁)
  refine thn (hb _ _ ?_ [] s σ H D I1 ht) fun f s1 q => ?_
  · intro pins' σ' H1 s1 ev s2 J hx
    obtain ⟨e, C, H2, rfl, F, q⟩ := hx
    have J' : Inv X pins σ' H1 s1 := Inv.ofTry I.ok J
    have F : Fly X.prog X.w X.stack H1 H2 s1 s2 e C := F
    obtain ⟨B, a0, fl, okB, c1, c2⟩ := F.fl
    have fl' := fl
    rw [hstk] at fl'
    show wpAny (model X.prog X.w) X.A (noteFrame (.ref e) X.env) _ X.xe s2
    refine wpAny_looks_onW (by rw [I.ok.frames, hstk]) hfr fl' fun h3 held up3 => wpAny_landsW held fun h4 fl4 up4 => ?_
    obtain ⟨hmt, hts⟩ := hh C none H2 σ' q J.len
    have I4 : Inv X pins σ' H2 { s2 with heap := h4 } := J'.land (t' := s2.toks) F fl okB c1 c2 fl4.1 (up3.trans up4)
    obtain ⟨ob, hob, hoc⟩ := fl4.there
    refine wpAny_handleBy_cons (codeAny_handlers_test (ld_glob (I4.inSuite e) hg hm ?_ hd)) (by intro z; cases z)
    refine (PySem.W.exm_one I4.kIn (cls := C) (hoc ▸ looks_type hob) hmt).here ?_
    refine codeAny_handlers_suite ?_
    refine lands_againW fl4 fun h5 fl5 up5 => ?_
    have I5 : Inv X pins σ' H2 { s2 with heap := h5 } := J'.land (t' := s2.toks) F fl okB c1 c2 fl5.1 ((up3.trans up4).trans up5)
    exact thnF (hs e pins _ σ' H2 D (I5.inSuite e) hts) fun f s6 q6 => SP.ofSuite I.ok q6
  · have q' : SP X pins D f s1 := SP.ofTry I.ok q
    cases f with
    | next => exact wpAny_execs_nil q'
    | brk => exact q'
    | cont => exact q'
    | ret u => exact q'
end
end L2
namespace L2
open PySem PySem.Spec PyProof.Rows
structure EqOk {α : Type} [DecidableEq α] (X : Cx) (A : Around) (R : Hp → α → V → Prop) : Prop where
  eq : ∀ (pins : List (Addr × Obj)) (σ : St) (H : Hp) (s : Shared), Inv X pins σ H s → ∀ a b x y u v, R H a x → R H b y → RelV x u → RelV y v → SeqAt.EqAt A s u v (decide (a = b))
  fn : ∀ (pins : List (Addr × Obj)) (σ : St) (H : Hp) (s : Shared), Inv X pins σ H s → ∀ a b x, R H a x → R H b x → a = b
def strR : Hp → Str → V → Prop := fun _ z v => v = .str z
def tupR {α : Type} (K : PySem.W.Frag) (R : Hp → α → V → Prop) : Hp → List α → V → Prop := fun H zs v => ∃ a xs, v = .ref a ∧ SqT K H a xs ∧ Paired (R H) zs xs
def lstR {α : Type} (K : PySem.W.Frag) (R : Hp → α → V → Prop) : Hp → List α → V → Prop := fun H zs v => ∃ a xs, v = .ref a ∧ SqL K H a xs ∧ Paired (R H) zs xs
theorem paired_get {α β : Type} {F : α → β → Prop} : ∀ {l₁ : List α} {l₂ : List β} {i : Nat} {b : β}, Paired F l₁ l₂ → l₂[i]? = some b → ∃ a, l₁[i]? = some a ∧ F a b
  | _, _, _, _, .nil, e => by simp at e
  | _, _, 0, _, .cons h _, e => by simp at e; subst e; exact ⟨_, rfl, h⟩
  | _, _, i + 1, b, .cons _ t, e => by
    obtain ⟨a, h1, h2⟩ := paired_get (i := i) (b := b) t (by simpa using e)
    exact ⟨a, by simpa using h1, h2⟩
theorem paired_fn {α β : Type} {F : α → β → Prop} (hf : ∀ a b x, F a x → F b x → a = b) : ∀ {l l' : List α} {m : List β}, Paired F l m → Paired F l' m → l = l'
  | _, _, _, .nil, .nil => rfl
  | _, _, _, .cons h t, .cons h' t' => by rw [hf _ _ _ h h', paired_fn hf t t']
theorem all_eq_items {α : Type} [DecidableEq α] (xs ys : List α) : ((List.range (min xs.length ys.length)).all (fun j => decide (xs[j]? = ys[j]?)) && xs.length == ys.length) = decide (xs = ys) := by
  rw [Bool.eq_iff_iff]
  simp only [Bool.and_eq_true, List.all_eq_true, List.mem_range, decide_eq_true_eq, beq_iff_eq]
  constructor
  · rintro ⟨h1, h2⟩
    refine List.ext_getElem? fun i => ?_
    by_cases hi : i < xs.length
    · exact h1 i (by omega)
    · rw [List.getElem?_eq_none (by omega), List.getElem?_eq_none (by omega)]
  · rintro rfl
    exact ⟨fun _ _ => rfl, rfl⟩
section
variable {X : Cx} {α : Type} [DecidableEq α] {R : Hp → α → V → Prop}
theorem eqok_str {A : Around} : EqOk X A strR where
  eq := fun pins σ H s I a b x y u v ra rb ru rv => by
    cases ra
    cases rb
    obtain ⟨t, rfl⟩ := ru
    obtain ⟨t', rfl⟩ := rv
    exact SeqAt.EqAt.str_str a t b t'
  fn := fun pins σ H s I a b x ra rb => by
    rw [ra] at rb
    exact V.str.inj rb
theorem items_eq {A : Around} (h : EqOk X A R) {pins : List (Addr × Obj)} {σ : St} {H : Hp} {s : Shared} (I : Inv X pins σ H s) {zs ws : List α} {xs ys : List V} {its its2 : List Value} (r : Vals xs its) (r' : Vals ys its2) (p : Paired (R H) zs xs) (p' : Paired (R H) ws ys)
    (j : Nat) (h1 : j < its.toArray.size) (h2 : j < its2.toArray.size) : SeqAt.EqAt A s its.toArray[j] its2.toArray[j] (decide (zs[j]? = ws[j]?)) := by
  have l1 : j < its.length := by simpa using h1
  have l2 : j < its2.length := by simpa using h2
  have k1 : j < xs.length := by rw [r.length]; exact l1
  have k2 : j < ys.length := by rw [r'.length]; exact l2
  obtain ⟨u, hu, ru⟩ := r.get (List.getElem?_eq_getElem k1)
  obtain ⟨v, hv, rv⟩ := r'.get (List.getElem?_eq_getElem k2)
  obtain ⟨a, ha, ra⟩ := paired_get p (List.getElem?_eq_getElem k1)
  obtain ⟨b, hb, rb⟩ := paired_get p' (List.getElem?_eq_getElem k2)
  have e1 : its.toArray[j] = u := by
    rw [List.getElem?_eq_getElem l1] at hu
    simpa using Option.some.inj hu
  have e2 : its2.toArray[j] = v := by
    rw [List.getElem?_eq_getElem l2] at hv
    simpa using Option.some.inj hv
  have e3 : decide (zs[j]? = ws[j]?) = decide (a = b) := by
    rw [ha, hb]
    exact decide_eq_decide.mpr ⟨fun z => Option.some.inj z, fun z => by rw [z]⟩
  rw [e1, e2, e3]
  exact h.eq pins σ H s I a b _ _ u v ra rb ru rv
theorem rc_tup {A : Around} (h : EqOk X A.in1 R) (hu : A.units < cLine) {pins : List (Addr × Obj)} {σ : St} {H : Hp} {s : Shared} (I : Inv X pins σ H s) {zs ws : List α} {a b : Addr} {xs ys : List V} (q : SqT X.K H a xs) (q' : SqT X.K H b ys) (p : Paired (R H) zs xs) (p' : Paired (R H) ws ys) :
    SeqAt.RcAt A s (.ref a) (.ref b) (decide (zs = ws)) ∧ SeqAt.RcNeAt A s (.ref a) (.ref b) (!decide (zs = ws)) := by
  obtain ⟨its, r, t, _⟩ := I.tuple q
  obtain ⟨its2, r', t', _⟩ := I.tuple q'
  have e : ((List.range (min its.toArray.size its2.toArray.size)).all (fun j => decide (zs[j]? = ws[j]?)) && its.toArray.size == its2.toArray.size) = decide (zs = ws) := by
    have l1 : its.toArray.size = zs.length := by rw [List.size_toArray, ← r.length, p.length]
    have l2 : its2.toArray.size = ws.length := by rw [List.size_toArray, ← r'.length, p'.length]
    rw [l1, l2]
    exact all_eq_items zs ws
  have g1 := SeqAt.RcAt.tuples (A := A) (s := s) (l := a) (b := b) (e := fun j => decide (zs[j]? = ws[j]?)) t t' hu (fun j h1 h2 => items_eq h I r r' p p' j h1 h2)
  have g2 := SeqAt.RcNeAt.tuples (A := A) (s := s) (l := a) (b := b) (e := fun j => decide (zs[j]? = ws[j]?)) t t' hu (fun j h1 h2 => items_eq h I r r' p p' j h1 h2)
  rw [e] at g1 g2
  exact ⟨g1, g2⟩
theorem eqok_tup {A : Around} (h : EqOk X A.in1 R) (hu : A.units < cLine) : EqOk X A (tupR X.K R) where
  eq := fun pins σ H s I zs ws x y u v ⟨a, xs, e1, q, p⟩ ⟨b, ys, e2, q', p'⟩ ru rv => by
    subst e1 e2
    cases ru
    cases rv
    by_cases hab : a = b
    · subst hab
      have ex := I.tuple_inj q q'
      subst ex
      have ez := paired_fn (h.fn pins σ H s I) p p'
      rw [decide_eq_true ez]
      exact SeqAt.EqAt.same _
    · exact SeqAt.EqAt.of_refs hab (rc_tup h hu I q q' p p').1
  fn := fun pins σ H s I zs ws x ⟨a, xs, e1, q, p⟩ ⟨b, ys, e2, q', p'⟩ => by
    subst e1
    cases e2
    have ex := I.tuple_inj q q'
    subst ex
    exact paired_fn (h.fn pins σ H s I) p p'
theorem op_catT0 : OpR X (binaryOp .Add) (fun x y H Q => ∃ a b ys, x = .ref a ∧ y = .ref b ∧ SqT X.K H a [] ∧ SqT X.K H b ys ∧ Q (.ref b) H) := by
  intro pins s σ H x y v u Q I rx ry h
  obtain ⟨a, b, ys, rfl, rfl, ha, hb, q⟩ := h
  cases rx
  cases ry
  obtain ⟨its, r1, p1, _⟩ := I.tuple ha
  obtain ⟨its2, r2, p2, _⟩ := I.tuple hb
  cases r1
  obtain ⟨⟨c1, d1, t1, l1⟩, o1, hc1, n1, hd1⟩ := p1
  obtain ⟨⟨c2, d2, t2, l2⟩, o2, hc2, n2, hd2⟩ := p2
  simp only at hc1 hd1 hc2 hd2
  subst hc1 hd1 hc2 hd2
  exact concat_meets ⟨_, o1, rfl⟩ ⟨_, o2, rfl⟩ noFill_tuple_add seq_tuple_add PySem.F.slot_tuple_add PySem.F.entry_tuple_add (PySem.F.args_tuple_add_2 _ _)
    (tuple_addW0 a b #[] its2.toArray n1 n2 d1 d2 l1 l2 rfl) ⟨o1, o2, ⟨.ref b, H, I, rfl, q⟩⟩
def endsC (x y : Str) : Bool := decide (y.length ≤ x.length) && decide (x.cps.toList.drop (x.length - y.length) = y.cps.toList)
theorem mt_ends : MtR X "str.endswith" (fun x vs H Q => ∃ z y, x = .str z ∧ vs = [.str y] ∧ Q (.bl (endsC z y)) H) := by
  intro pins s σ H x vs v us Q I rx rv h
  obtain ⟨z, y, rfl, rfl, q⟩ := h
  obtain ⟨t, rfl⟩ := rx
  obtain ⟨u, rfl, ru⟩ := vals1 rv
  obtain ⟨t', rfl⟩ := ru
  refine SC.endswith ⟨.bl (endsC z y), H, I, ?_, q⟩
  show Value.bool (Txt.endswith z y) = Value.bool (endsC z y)
  have e : Txt.endswith z y = endsC z y := by
    unfold Txt.endswith endsC
    rw [StrLaws.subAt_eq]
    by_cases hl : y.length ≤ z.length
    · have e1 : (z.cps.toList.drop (z.length - y.length)).take y.length = z.cps.toList.drop (z.length - y.length) := List.take_of_length_le (by rw [List.length_drop]; simp [Str.length] at hl ⊢; omega)
      rw [e1]
      have e2 : (z.cps.toList.drop (z.length - y.length) == y.cps.toList) = decide (z.cps.toList.drop (z.length - y.length) = y.cps.toList) := by
        rw [Bool.eq_iff_iff]
        simp
      rw [e2]
      simp [hl]
    · simp [hl]
  rw [e]
end
end L2
namespace L2
open PySem PySem.Spec PyProof.Rows
section
variable {X : Cx} {t : St → Hp → Prop}
end
end L2
namespace L2
open PySem PySem.Spec PyProof.Rows
structure XCls (K : PySem.W.Frag) (D : Addr) : Prop where
  cl : (PySem.W.clsIn K D).isSome = true
  ga : PySem.W.findIn K (.ref D) "__getattribute__" = some (some (.builtin "BaseException.__getattribute__"))
  gt : PySem.W.findIn K (.ref D) "__getattr__" = some none
  at_ : PySem.W.findIn K (.ref D) "__class__" = some (some (.builtin "object.__class__"))
  sp : PySem.W.specialIn K (.builtin "object.__class__") "__get__" = some (some (.builtin "getset_descriptor.__get__"))
  tk : PySem.W.takesIn K (.builtin "object.__class__") = some true
  ob : PySem.W.mroIn K D (.type "object") = some true
  be : PySem.W.mroIn K D (.type "BaseException") = some true
section
variable {prog : Program} {w : World} {A : Around} {E : Value → Shared → Prop} {s : Shared} {K : PySem.W.Frag} {x D : Addr} {ox : Obj}
open PySem.W PySem.Builtin PySem.Builtin.ObjectAttr PySem.Builtin.Getset_descriptor in
end
section
variable {X : Cx}
end
end L2
namespace L2
open PySem PySem.Spec PyProof.Rows
section
variable {X : Cx} {pins : List (Addr × Obj)} {σ : St} {H : Hp} {s : Shared}
end
theorem Fun.okX {P : Program} {w : World} {K : PySem.W.Frag} {mg : Str → Option Value} {base : Heap} {CX : CXT} {x qual : Str} {st : Stmt} {f : Addr} {fd : FuncData} {N ps : List Str} {k : Nat} {sp : Sp} (F : Fun K x qual st f fd) (S : FnScope N ps (defScope st)) (len : ∀ vs H Q E, sp vs H Q E → vs.length = ps.length)
    (hbody : ∀ (cdv : Value) (A : Around) (outer : List Env) (s : Shared) (H : Hp) (vs : List V) (Q : VK) (E : XK), Room k (A.deeper (envOfC qual (defScope st) s.heap.objs.size f cdv)) → sp vs H Q E →
      ∃ t, PSs (cxOf CX P w K mg base N qual (defScope st) f cdv A outer s H E) (defBody st) t ∧ t { nx := fun _ H' => Q .non H', rt := Q } (start N vs) H) : FnOk P w K mg base CX (k + 1) f fd ps sp := by
  obtain ⟨oc, od, kV, doc, pm, an, cdv, ct, osl, rfl, lk, hcd⟩ := F.ex
  exact fn_of lk hcd S len fun A outer s H vs Q E hr hsp => hbody cdv A outer s H vs Q E hr hsp
theorem FnOk.anyCX {P : Program} {w : World} {K : PySem.W.Frag} {mg : Str → Option Value} {base : Heap} {CX : CXT} {k : Nat} {f : Addr} {fd : FuncData} {ps : List Str} {sp : Sp} (F : FnOk P w K mg base CX0 k f fd ps sp) : FnOk P w K mg base CX k f fd ps sp :=
  ⟨F.len, fun A outer s H args us vs Q E hr he hb hv hs => codeAny_mono (F.run A outer s H args us vs Q E hr he hb hv hs) fun r s' h => by
    cases r with
    | error e => exact False.elim h
    | ok fl => cases fl <;> exact h⟩
theorem Def.anyCX {P : Program} {w : World} {K : PySem.W.Frag} {mg : Str → Option Value} {base : Heap} {CX : CXT} {k : Nat} {x : Str} {ps : List Str} {sp : Sp} (D : Def P w K mg base CX0 k x ps sp) : Def P w K mg base CX k x ps sp := by
  obtain ⟨f, fd, F, b, kp, m⟩ := D.ex
  exact ⟨f, fd, F.anyCX, b, kp, m⟩
end L2
namespace L2
open PySem PySem.Spec PyProof.Rows
theorem cut_last (xs : List V) (l : V) : cutV (xs ++ [l]) none (some (-1)) = xs ∧ ¬ (HT.sIx (xs ++ [l]).length 0 none = 0 ∧ HT.sIx (xs ++ [l]).length (xs ++ [l]).length (some (-1)) = (xs ++ [l]).length) := by
  have e : HT.sIx (xs ++ [l]).length (xs ++ [l]).length (some (-1)) = xs.length := by
    have z : HT.sIx (xs ++ [l]).length (xs ++ [l]).length (some (-1)) = ((-1 : Int) + ((xs ++ [l]).length : Int)).toNat := rfl
    rw [z, List.length_append, List.length_singleton]
    omega
  constructor
  · unfold cutV
    rw [e, HT.sIx_none, List.drop_zero, Nat.sub_zero, List.take_append_of_le_length (Nat.le_refl _), List.take_length]
  · rw [e, List.length_append, List.length_singleton]
    omega
theorem same_upd {H : Hp} {p : Addr} (h : H p = none) (o : HO) : Same H (upd H p o) := fun b u q => by rw [upd_ne (ne_of_none q h)]; exact q
theorem Same.seqT {K : PySem.W.Frag} {H H' : Hp} {a : Addr} {xs : List V} (e : Same H H') (h : SqT K H a xs) : SqT K H' a xs := by
  rcases h with (h | ⟨o, h⟩) | h
  · exact .inl (.inl (e _ _ h))
  · exact .inl (.inr ⟨o, e _ _ h⟩)
  · exact .inr h
abbrev rCat2 (K : PySem.W.Frag) : R2 := fun x y H Q => (∃ a b ys, x = .ref a ∧ y = .ref b ∧ SqT K H a [] ∧ SqT K H b ys ∧ Q (.ref b) H) ∨ rCatT K x y H Q
theorem cat2_rd {K : PySem.W.Frag} {H : Hp} {Q : VK} {a b : Addr} {xs ys : List V} (ha : SqT K H a xs) (hb : H b = some (.tup ys)) (hy : ys ≠ []) (hz : xs.length + ys.length ≤ sizeLine) (q : ∀ p H', Same H H' → H' p = some (.tup (xs ++ ys)) → Q (.ref p) H') : rCat2 K (.ref a) (.ref b) H Q := by
  by_cases hx : xs = []
  · subst hx
    exact .inl ⟨a, b, ys, rfl, rfl, ha, SqT.of hb, q b H (Same.refl H) hb⟩
  · exact .inr ⟨a, b, xs, ys, rfl, rfl, ha, SqT.of hb, hx, hz, fun z => absurd z hy, fun _ p hp => q p _ (same_upd hp _) upd_same⟩
theorem snoc_rd {K : PySem.W.Frag} {σ : St} {H : Hp} {Q : VK} {i : Nat} {a : Addr} {xs : List V} {l z : V} {te : TE} (hσ : σ[i]? = some (some (.ref a))) (hS : SqT K H a (xs ++ [l])) (hz : xs.length + 1 ≤ sizeLine) (ht : ∀ H1, Same H H1 → ∀ Q1 : VK, Q1 z H1 → te σ H1 Q1)
    (q : ∀ p H', Same H H' → H' p = some (.tup (xs ++ [z])) → Q (.ref p) H') : tOp (rCat2 K) (tSl (rSlT K) (tVar i) tNoPart (tPart (tUn (rU fun i => .int (-i)) (tC (.int 1))))) (tTup (tCons te tNil)) σ H Q := by
  obtain ⟨e, nw⟩ := cut_last xs l
  refine ⟨_, hσ, 1, rfl, _, rfl, a, _, rfl, hS, nw, fun p hp => ?_⟩
  have g1 := same_upd hp (.tup (cutV (xs ++ [l]) none (some (-1))))
  refine ht _ g1 _ ⟨(by show 1 ≤ sizeLine; decide), fun p2 hp2 => ?_⟩
  have g2 := same_upd hp2 (.tup [z])
  refine cat2_rd (xs := xs) (ys := [z]) (g2.seqT (SqT.of (by rw [upd_same, e]))) upd_same (by simp) hz fun p3 H' g3 h3 => q p3 H' (g1.trans (g2.trans g3)) h3
end L2
namespace L2
open PySem PySem.Spec PyProof.Rows
section
variable {X : Cx}
theorem vals_strs : ∀ l : List (Str × Tok), Vals ((l.map (·.1)).map V.str) (strValues l)
  | [] => .nil
  | p :: r => .cons ⟨p.2, rfl⟩ (vals_strs r)
theorem split_count (x y : Str) : (Txt.split x y).length ≤ x.length + 2 := by
  unfold Txt.split
  split
  · show 1 ≤ _; omega
  · split
    · show 1 ≤ _; omega
    · have z := StrLaws.occ_length_le x y 0 x.length (x.length + 1)
      rw [length_partsBetween]
      omega
theorem mt_split : MtR X "str.split" (fun x vs H Q => ∃ (z y : Str), x = .str z ∧ vs = [.str y] ∧ y.length = 1 ∧ z.length + 2 ≤ sizeLine ∧ ∀ p, H p = none → Q (.ref p) (upd H p (.lst ((Txt.split z y).map V.str)))) := by
  intro pins s σ H x vs v us Q I rx rv h
  obtain ⟨z, y, rfl, rfl, hy1, hz, q⟩ := h
  obtain ⟨t, rfl⟩ := rx
  obtain ⟨u, rfl, ru⟩ := vals1 rv
  obtain ⟨t', rfl⟩ := ru
  have hy : (y.length == 0) = false := by rw [hy1]; rfl
  have fin : ∀ (l : List (Str × Tok)) (k : Nat), l.map (·.1) = Txt.split z y → EP X pins σ Q (.ref s.heap.objs.size) { s with heap := s.heap.push { cls := .type "list", data := .seq (strValues l).toArray }, toks := k } := fun l k e => by
    have hv := vals_strs l
    rw [e] at hv
    exact ⟨.ref _, _, I.lnew (t' := k) hv (by rw [List.length_map]; exact Nat.le_trans (split_count z y) hz), rfl, q _ I.fresh⟩
  have hn : (Builtin.Str.partsBetween z (Builtin.Str.occurrences z y 0 z.length (z.length + 1)) y.length).length ≤ sizeLine := by
    have z1 := StrLaws.occ_length_le z y 0 z.length (z.length + 1)
    rw [length_partsBetween]
    omega
  by_cases h1 : (decide (z.length < y.length) || decide (Builtin.Str.strKind z < Builtin.Str.strKind y)) = true
  · exact call_meets F.slot_str_split (typeIs_str _ _ _) F.entry_str_split (F.args_str_split_2 _ _) (meets_str_split_cannot_occur z y t t' h1) (fin [(z, t)] s.toks (by unfold Txt.split; rw [if_pos h1] <;> rfl))
  by_cases hf : (Builtin.Str.occurrences z y 0 z.length (z.length + 1)).isEmpty = true
  · exact call_meets F.slot_str_split (typeIs_str _ _ _) F.entry_str_split (F.args_str_split_2 _ _) (meets_str_split_not_found z y t t' (Bool.eq_false_iff.mpr h1) hy hf) (fin [(z, t)] s.toks (by unfold Txt.split; rw [if_neg h1, if_pos hf] <;> rfl))
  have m := call_meets (prog := X.prog) (w := X.w) (A := X.A) (E := X.xe) (s := s) (Q := EP X pins σ Q) F.slot_str_split (typeIs_str _ _ _) F.entry_str_split (F.args_str_split_2 _ _) (meets_str_split_sep z y t t' (Bool.eq_false_iff.mpr h1) hy (Bool.eq_false_iff.mpr hf) (by omega) hn)
  refine m ?_
  have e : Txt.split z y = Builtin.Str.partsBetween z (Builtin.Str.occurrences z y 0 z.length (z.length + 1)) y.length := by unfold Txt.split; rw [if_neg h1, if_neg hf]
  have f := fin (numbered s.toks (Txt.split z y)) (s.toks + (Txt.split z y).length) (numbered_texts _ _)
  rw [← strsFrom_eq, e] at f
  exact f
end
end L2
namespace L2
open PySem PySem.Spec PyProof.Rows
section
variable {X : Cx} {α : Type} [DecidableEq α] {R : Hp → α → V → Prop}
noncomputable def standsFor (R : Hp → α → V → Prop) (H : Hp) (z : α) (u : Value) : Bool := @decide (∃ x, RelV x u ∧ R H z x) (Classical.propDecidable _)
theorem standsFor_eq {A : Around} (h : EqOk X A R) {pins : List (Addr × Obj)} {σ : St} {H : Hp} {s : Shared} (I : Inv X pins σ H s) {z a : α} {x : V} {u : Value} (r : RelV x u) (p : R H a x) : standsFor R H z u = decide (a = z) := by
  unfold standsFor
  by_cases e : a = z
  · subst e
    rw [decide_eq_true rfl]
    exact @decide_eq_true _ (Classical.propDecidable _) ⟨x, r, p⟩
  · rw [decide_eq_false e]
    refine @decide_eq_false _ (Classical.propDecidable _) fun ⟨y, ry, py⟩ => e ?_
    have ex := RelV.inj r ry
    subst ex
    exact h.fn pins σ H s I _ _ _ p py
theorem any_stands {A : Around} (h : EqOk X A R) {pins : List (Addr × Obj)} {σ : St} {H : Hp} {s : Shared} (I : Inv X pins σ H s) {z : α} : ∀ {zs : List α} {xs : List V} {us : List Value}, Vals xs us → Paired (R H) zs xs → us.any (standsFor R H z) = decide (z ∈ zs)
  | _, _, _, .nil, .nil => by simp
  | _ :: _, _ :: _, _ :: _, .cons r rs, .cons p ps => by
    rw [List.any_cons, standsFor_eq h I r p, any_stands h I rs ps]
    simp only [List.mem_cons, Bool.decide_or]
    congr 1
    exact decide_eq_decide.mpr eq_comm
theorem mem_stands {A : Around} (h : EqOk X A R) {pins : List (Addr × Obj)} {σ : St} {H : Hp} {s : Shared} (I : Inv X pins σ H s) {z : α} {x : V} {v : Value} (rz : RelV x v) (pz : R H z x) : ∀ {zs : List α} {xs : List V} {us : List Value}, Vals xs us → Paired (R H) zs xs → ∀ u ∈ us, SeqAt.EqAt A s u v (standsFor R H z u)
  | _, _, _, .nil, .nil, _, hu => nomatch hu
  | _ :: _, _ :: _, _ :: _, .cons r rs, .cons p ps, u, hu => by
    rcases List.mem_cons.mp hu with e | e
    · subst e
      rw [standsFor_eq h I r p]
      exact h.eq pins σ H s I _ _ _ _ _ _ p pz r rz
    · exact mem_stands h I rz pz rs ps u e
theorem op_inLst (h : EqOk X X.A.in1 R) : OpR X (compareOp .In) (fun x y H Q => ∃ z zs, R H z x ∧ lstR X.K R H zs y ∧ Q (.bl (decide (z ∈ zs))) H) := by
  intro pins s σ H x y v u Q I rx ry hh
  obtain ⟨z, zs, pz, ⟨a, xs, rfl, hq, ps⟩, q⟩ := hh
  cases ry
  obtain ⟨its, r, pl, hz⟩ := I.list hq
  refine SeqAt.in_listAt (standsFor R H z) pl.isList (fun w hw => mem_stands h I rx pz r ps w (by simpa using hw)) ⟨.bl _, H, I, rfl, ?_⟩
  rw [show its.toArray.any (standsFor R H z) = its.any (standsFor R H z) by simp, any_stands h I r ps]
  exact q
end
section
variable {X : Cx} {t : St → Hp → Prop}
end
end L2
namespace L2
open PySem PySem.Spec PyProof.Rows
theorem Inv.turnedNew {X : Cx} {pins : List (Addr × Obj)} {σ : St} {H : Hp} {s : Shared} {h' : Heap} {t' : Nat} {ch : List Addr} {a : Addr} {o : HO} (I : Inv X pins σ H s) (k : ∀ b u, b ∉ ch → s.heap.get? b = some u → h'.get? b = some u) (hf : ∀ b ∈ ch, FpOk X pins H b)
    (ha : s.heap.objs.size ≤ a) (new : ObjOk X.prog X.w (upd H a o) h' a o) : Inv X pins σ (upd H a o) { s with heap := h', toks := t' } := by
  have hn : H a = none := I.hok.fresh ha
  have same : ∀ b u, H b = some u → upd H a o b = some u := fun b u e => by rw [upd_ne (ne_of_none e hn)]; exact e
  have off : ∀ b u, H b = some u → b ∉ ch := fun b u e z => by
    rw [(hf b z).1] at e
    cases e
  refine I.step (g' := s.gens) (d' := s.drawn) (ch := ch) (fun b hb => ⟨(hf b hb).2.2.2.1, (hf b hb).2.1, (hf b hb).2.2.2.2.1, (hf b hb).2.2.2.2.2⟩) (fun b u _ _ hc e _ => k b u hc e) (fun b u _ _ hc e _ => ⟨u.slots, k b u hc e⟩)
    (fun b u hc e n => by rw [upd_ne (Nat.ne_of_lt (Nat.lt_of_lt_of_le (Heap.lt_size e) ha))]; exact n) (fun b u hc e => ⟨u, k b u hc e⟩) (fun b xs e => same b _ e) (fun b w u e => same b _ e) (fun b ps e => ⟨#[], by rw [same b _ e]; simp⟩) (fun m hm => ?_) (fun b u e => ?_) I.bare
  · obtain ⟨u, es, ep, ho, r⟩ := hm
    exact ⟨u, es, ep, k _ u (fun z => (hf _ z).2.1 rfl) ho, r⟩
  · by_cases hb : b = a
    · subst hb
      rw [upd_same] at e
      cases e
      exact new
    · rw [upd_ne hb] at e
      refine (I.hok b u e).stay (fun c w hc e' => k c w ?_ e') (fun c q => same c _ q) (fun c xs q => same c _ q)
      rcases hc with rfl | hc
      · exact off _ _ e
      · exact off _ _ hc
theorem Inv.turnedAll {X : Cx} {pins : List (Addr × Obj)} {σ : St} {H : Hp} {s : Shared} {h' : Heap} {t' : Nat} {ch : List Addr} (I : Inv X pins σ H s) (k : ∀ b u, b ∉ ch → s.heap.get? b = some u → h'.get? b = some u) (hf : ∀ b ∈ ch, FpOk X pins H b) : Inv X pins σ H { s with heap := h', toks := t' } := by
  have off : ∀ b u, H b = some u → b ∉ ch := fun b u e z => by
    rw [(hf b z).1] at e
    cases e
  refine I.step (g' := s.gens) (d' := s.drawn) (ch := ch) (fun b hb => ⟨(hf b hb).2.2.2.1, (hf b hb).2.1, (hf b hb).2.2.2.2.1, (hf b hb).2.2.2.2.2⟩) (fun b u _ _ hc e _ => k b u hc e) (fun b u _ _ hc e _ => ⟨u.slots, k b u hc e⟩)
    (fun b u hc e n => n) (fun b u hc e => ⟨u, k b u hc e⟩) (fun b xs e => e) (fun b w u e => e) (fun b ps e => ⟨#[], by rw [e]; simp⟩) (fun m hm => ?_) (fun b u e => ?_) I.bare
  · obtain ⟨u, es, ep, ho, r⟩ := hm
    exact ⟨u, es, ep, k _ u (fun z => (hf _ z).2.1 rfl) ho, r⟩
  · refine (I.hok b u e).stay (fun c w hc e' => k c w ?_ e') (fun c q => q) (fun c xs q => q)
    rcases hc with rfl | hc
    · exact off _ _ e
    · exact off _ _ hc
end L2
namespace L2
open PySem
section
variable {prog : Program} {w : World} {A : Around} {E : Value → Shared → Prop} {s : Shared}
structure ZipOff (z TI TO i1 i2 : Addr) (fp1 fp2 : List Addr) : Prop where
  a : TI ≠ z ∧ TO ≠ z ∧ i1 ≠ z ∧ i2 ≠ z ∧ TI ≠ TO ∧ TI ≠ i1 ∧ TI ≠ i2 ∧ TO ≠ i1 ∧ TO ≠ i2 ∧ i1 ≠ i2
  b : z ∉ fp1 ∧ TO ∉ fp1 ∧ i2 ∉ fp1
  c : z ∉ fp2 ∧ TO ∉ fp2 ∧ i1 ∉ fp2
variable {z TI TO i1 i2 : Addr} {fp1 fp2 : List Addr} {n1 n2 k : Nat} {P1 P2 : Nat → Value → Prop} {S1 S2 : Nat → Heap → Prop} {u0 v0 : Value}
end
section
variable {prog : Program} {w : World} {A : Around} {E : Value → Shared → Prop} {s : Shared}
end
end L2
namespace L2
open PySem PySem.Spec PyProof.Rows
section
variable {X : Cx} {pins : List (Addr × Obj)} {σ : St} {H : Hp} {s : Shared} {a c : Addr} {xs : List V}
end
structure ZipAt (z TI TO i1 i2 a b : Addr) (i : Nat) (h : Heap) : Prop where
  z : IsZip h z TI TO .none
  ti : IsPair h TI (.ref i1) (.ref i2)
  to : ∃ u v, IsPair h TO u v
  t : h.IsTupleIter i1 a i
  l : h.IsListIter i2 b i
structure Five (z TI TO i1 i2 : Addr) : Prop where
  a : TI ≠ z ∧ TO ≠ z ∧ i1 ≠ z ∧ i2 ≠ z ∧ TI ≠ TO ∧ TI ≠ i1 ∧ TI ≠ i2 ∧ TO ≠ i1 ∧ TO ≠ i2 ∧ i1 ≠ i2
section
variable {P : Program} {w : World} {K : PySem.W.Frag} {elts : List Expr} {kt : Nat} {pt : Pos}
end
section
variable {X : Cx} {elts : List Expr} {kt : Nat} {pt : Pos}
end
end L2
namespace L2
open PySem PySem.Spec PyProof.Rows
def EqS (A : Around) (s : Shared) (x y : V) : Prop := ∀ u v, RelV x u → RelV y v → SeqAt.EqAt A s u v true
theorem eqS_str {A : Around} {s : Shared} (z : Str) : EqS A s (.str z) (.str z) := by
  rintro u v ⟨t, rfl⟩ ⟨t', rfl⟩
  have h := SeqAt.EqAt.str_str (A := A) (s := s) z t z t'
  rw [beq_self_eq_true] at h
  exact h
theorem eqS_int {A : Around} {s : Shared} (i : Int) : EqS A s (.int i) (.int i) := by
  rintro u v ⟨t, rfl⟩ ⟨t', rfl⟩
  have h := SeqAt.EqAt.int_int (A := A) (s := s) i t i t'
  rw [beq_self_eq_true] at h
  exact h
theorem eqS_items {A : Around} {s : Shared} {xs ys : List V} {us vs : List Value} (r : Vals xs us) (r' : Vals ys vs) (p : Paired (EqS A s) xs ys) (j : Nat) (h1 : j < us.toArray.size) (h2 : j < vs.toArray.size) : SeqAt.EqAt A s us.toArray[j] vs.toArray[j] true := by
  have l1 : j < us.length := by simpa using h1
  have l2 : j < vs.length := by simpa using h2
  have k1 : j < xs.length := by rw [r.length]; exact l1
  have k2 : j < ys.length := by rw [r'.length]; exact l2
  obtain ⟨u, hu, ru⟩ := r.get (List.getElem?_eq_getElem k1)
  obtain ⟨v, hv, rv⟩ := r'.get (List.getElem?_eq_getElem k2)
  obtain ⟨x, hx, q⟩ := paired_get p (List.getElem?_eq_getElem k2)
  have ex : x = xs[j] := by
    rw [List.getElem?_eq_getElem k1] at hx
    exact (Option.some.inj hx).symm
  subst ex
  have e1 : us.toArray[j] = u := by
    rw [List.getElem?_eq_getElem l1] at hu
    simpa using Option.some.inj hu
  have e2 : vs.toArray[j] = v := by
    rw [List.getElem?_eq_getElem l2] at hv
    simpa using Option.some.inj hv
  rw [e1, e2]
  exact q u v ru rv
theorem all_true (n : Nat) : (List.range n).all (fun _ => true) = true := by simp
section
variable {X : Cx} {pins : List (Addr × Obj)} {σ : St} {H : Hp} {s : Shared} {A : Around} {a b : Addr} {xs ys : List V}
theorem rcS_tup (I : Inv X pins σ H s) (q : SqT X.K H a xs) (q' : SqT X.K H b ys) (hu : A.units < cLine) (p : Paired (EqS A.in1 s) xs ys) : SeqAt.RcAt A s (.ref a) (.ref b) true ∧ SeqAt.RcNeAt A s (.ref a) (.ref b) false := by
  obtain ⟨its, r, t, _⟩ := I.tuple q
  obtain ⟨its2, r', t', _⟩ := I.tuple q'
  have l : its.toArray.size = its2.toArray.size := by rw [List.size_toArray, List.size_toArray, ← r.length, ← r'.length, p.length]
  have g1 := SeqAt.RcAt.tuples (A := A) (s := s) (l := a) (b := b) (e := fun _ => true) t t' hu (fun j h1 h2 => eqS_items r r' p j h1 h2)
  have g2 := SeqAt.RcNeAt.tuples (A := A) (s := s) (l := a) (b := b) (e := fun _ => true) t t' hu (fun j h1 h2 => eqS_items r r' p j h1 h2)
  rw [all_true, l, beq_self_eq_true] at g1 g2
  exact ⟨g1, g2⟩
theorem rcS_lst (I : Inv X pins σ H s) (q : SqL X.K H a xs) (q' : SqL X.K H b ys) (hu : A.units < cLine) (p : Paired (EqS A.in1 s) xs ys) : SeqAt.RcAt A s (.ref a) (.ref b) true ∧ SeqAt.RcNeAt A s (.ref a) (.ref b) false := by
  obtain ⟨its, r, t, _⟩ := I.list q
  obtain ⟨its2, r', t', _⟩ := I.list q'
  have l : its.toArray.size = its2.toArray.size := by rw [List.size_toArray, List.size_toArray, ← r.length, ← r'.length, p.length]
  have g1 := SeqAt.RcAt.lists (A := A) (s := s) (l := a) (b := b) (e := fun _ => true) t.isList t'.isList l hu (fun j h1 h2 => eqS_items r r' p j h1 h2)
  have g2 := SeqAt.RcNeAt.lists (A := A) (s := s) (l := a) (b := b) (e := fun _ => true) t.isList t'.isList l hu (fun j h1 h2 => eqS_items r r' p j h1 h2)
  rw [all_true] at g1 g2
  exact ⟨g1, g2⟩
theorem eqS_tup (I : Inv X pins σ H s) (q : SqT X.K H a xs) (q' : SqT X.K H b ys) (hu : A.units < cLine) (p : Paired (EqS A.in1 s) xs ys) : EqS A s (.ref a) (.ref b) := by
  rintro u v rfl rfl
  by_cases e : a = b
  · subst e
    exact SeqAt.EqAt.same _
  · exact SeqAt.EqAt.of_refs e (rcS_tup I q q' hu p).1
end
def SameL (X : Cx) (n : Nat) (H : Hp) (xs ys : List V) : Prop := ∀ (pins : List (Addr × Obj)) (σ : St) (s : Shared) (A : Around), Inv X pins σ H s → A.units + n < cLine → Paired (EqS A s) xs ys
section
variable {X : Cx} {n : Nat}
def rSmT (X : Cx) (n : Nat) (c : Bool) : R2 := fun x y H Q => ∃ a b xs ys, x = .ref a ∧ y = .ref b ∧ SqT X.K H a xs ∧ SqT X.K H b ys ∧ SameL X n H xs ys ∧ Q (.bl c) H
theorem op_eqST (hu : X.A.units + 1 + n < cLine) : OpR X (compareOp .Eq) (rSmT X n true) := by
  rintro pins s σ H x y v u Q I rx ry ⟨a, b, xs, ys, rfl, rfl, q, q', h, hQ⟩
  cases rx
  cases ry
  exact (rcS_tup (A := X.A) I q q' (by omega) (h pins σ s _ I (by show X.A.units + 1 + n < cLine; exact hu))).1 X.prog X.w _ _ ⟨.bl _, H, I, rfl, hQ⟩
def rNil (K : PySem.W.Frag) (c : Bool) : R2 := fun x y H Q => ∃ a b xs, x = .ref a ∧ y = .ref b ∧ SqL K H a xs ∧ SqL K H b [] ∧ Q (.bl (xs.isEmpty == c)) H
theorem rc_nil {pins : List (Addr × Obj)} {σ : St} {H : Hp} {s : Shared} {A : Around} {a b : Addr} {xs : List V} (I : Inv X pins σ H s) (q : SqL X.K H a xs) (q' : SqL X.K H b []) (hu : A.units < cLine) : SeqAt.RcAt A s (.ref a) (.ref b) xs.isEmpty ∧ SeqAt.RcNeAt A s (.ref a) (.ref b) (!xs.isEmpty) := by
  cases xs with
  | nil => exact rcS_lst I q q' hu .nil
  | cons x r =>
    obtain ⟨its, rv, t, _⟩ := I.list q
    obtain ⟨its2, rv', t', _⟩ := I.list q'
    have e1 := rv.length
    have e2 := rv'.length
    have hs : (its.toArray.size != its2.toArray.size) = true := by
      rw [List.size_toArray, List.size_toArray, ← e1, ← e2]
      simp
    exact ⟨SeqAt.RcAt.lists_lengths t.isList t'.isList hs hu, SeqAt.RcNeAt.lists_lengths t.isList t'.isList hs hu⟩
theorem op_neNil (hu : X.A.units < cLine) : OpR X (compareOp .NotEq) (rNil X.K false) := by
  rintro pins s σ H x y v u Q I rx ry ⟨a, b, xs, rfl, rfl, q, q', hQ⟩
  cases rx
  cases ry
  refine (rc_nil (A := X.A) I q q' hu).2 X.prog X.w _ _ ⟨.bl _, H, I, rfl, ?_⟩
  cases hx : xs.isEmpty <;> (rw [hx] at hQ; exact hQ)
end
inductive F where
  | nil
  | say (n : Int) (ws : List Str) (r : F)
  | tell (n : Int) (sc : Str) (ph : List Str) (bs : List (Str × Str)) (ms : List Str) (r : F)
  | part (n : Int) (i r : F)
  deriving DecidableEq
inductive Th where
  | say (n : Int) (ws : List Str)
  | tell (n : Int) (sc : Str) (ph : List Str) (bs : List (Str × Str)) (ms : List Str)
  | part (n : Int) (i : F)
  deriving DecidableEq
def F.ths : F → List Th
  | .nil => []
  | .say n ws r => .say n ws :: r.ths
  | .tell n sc ph bs ms r => .tell n sc ph bs ms :: r.ths
  | .part n i r => .part n i :: r.ths
def Th.cons : Th → F → F
  | .say n ws, r => .say n ws r
  | .tell n sc ph bs ms, r => .tell n sc ph bs ms r
  | .part n i, r => .part n i r
def F.of : List Th → F
  | [] => .nil
  | t :: r => t.cons (F.of r)
theorem ths_cons (t : Th) (f : F) : (t.cons f).ths = t :: f.ths := by cases t <;> rfl
theorem ths_of : ∀ ts : List Th, (F.of ts).ths = ts
  | [] => rfl
  | t :: r => by
    show (t.cons (F.of r)).ths = _
    rw [ths_cons, ths_of r]
theorem of_ths : ∀ f : F, F.of f.ths = f
  | .nil => rfl
  | .say n ws r => by
    show F.say n ws (F.of r.ths) = _
    rw [of_ths r]
  | .tell n sc ph bs ms r => by
    show F.tell n sc ph bs ms (F.of r.ths) = _
    rw [of_ths r]
  | .part n i r => by
    show F.part n i (F.of r.ths) = _
    rw [of_ths r]
def F.ord : F → List Th
  | .nil => []
  | .say n ws r => .say n ws :: r.ord
  | .tell n sc ph bs ms r => .tell n sc ph bs ms :: r.ord
  | .part n i r => .part n i :: (i.ord ++ r.ord)
def Th.sub : Th → F
  | .part _ i => i
  | _ => .nil
def Th.ord (t : Th) : List Th := t :: t.sub.ord
theorem ord_flat : ∀ f : F, f.ord = f.ths.flatMap Th.ord
  | .nil => rfl
  | .say n ws r => by
    show Th.say n ws :: r.ord = _
    rw [ord_flat r] <;> rfl
  | .tell n sc ph bs ms r => by
    show Th.tell n sc ph bs ms :: r.ord = _
    rw [ord_flat r] <;> rfl
  | .part n i r => by
    show Th.part n i :: (i.ord ++ r.ord) = _
    rw [ord_flat r] <;> rfl
def Th.num : Th → Int
  | .say n _ => n
  | .tell n _ _ _ _ => n
  | .part n _ => n
def F.need : F → Nat
  | .nil => 0
  | .say _ _ r => max 3 r.need
  | .tell _ _ _ _ _ r => max 4 r.need
  | .part _ i r => max (i.need + 2) r.need
def Th.need (t : Th) : Nat := (t.cons .nil).need
def F.dep : F → Nat
  | .nil => 0
  | .say _ _ r => r.dep
  | .tell _ _ _ _ _ r => r.dep
  | .part _ i r => max (i.dep + 1) r.dep
theorem need_dep : ∀ f : F, f.need ≤ 2 * f.dep + 4
  | .nil => Nat.zero_le _
  | .say _ _ r => by have := need_dep r; show max 3 r.need ≤ 2 * r.dep + 4; omega
  | .tell _ _ _ _ _ r => by have := need_dep r; show max 4 r.need ≤ 2 * r.dep + 4; omega
  | .part _ i r => by have h1 := need_dep i; have h2 := need_dep r; show max (i.need + 2) r.need ≤ 2 * max (i.dep + 1) r.dep + 4; omega
def wR (H : Hp) (ws : List Str) (v : V) : Prop := ∃ a, v = .ref a ∧ H a = some (.tup (ws.map V.str))
def cpR (H : Hp) (cp : Str × Str) (v : V) : Prop := ∃ a, v = .ref a ∧ H a = some (.tup [.str cp.1, .str cp.2])
def bR (H : Hp) (bs : List (Str × Str)) (v : V) : Prop := ∃ a xs, v = .ref a ∧ H a = some (.tup xs) ∧ Paired (cpR H) bs xs
def sayR (H : Hp) (n : Int) (ws : List Str) (v : V) : Prop := ∃ a x, v = .ref a ∧ H a = some (.tup [.str "say", .int n, x]) ∧ wR H ws x
def tellR (H : Hp) (n : Int) (sc : Str) (ph : List Str) (bs : List (Str × Str)) (ms : List Str) (v : V) : Prop := ∃ a x y z, v = .ref a ∧ H a = some (.tup [.str "tell", .int n, .str sc, x, y, z]) ∧ wR H ph x ∧ bR H bs y ∧ wR H ms z
def fR (H : Hp) : F → List V → Prop
  | .nil, xs => xs = []
  | .say n ws r, xs => ∃ v ys, xs = v :: ys ∧ sayR H n ws v ∧ fR H r ys
  | .tell n sc ph bs ms r, xs => ∃ v ys, xs = v :: ys ∧ tellR H n sc ph bs ms v ∧ fR H r ys
  | .part n i r, xs => ∃ v ys, xs = v :: ys ∧ (∃ a b zs, v = .ref a ∧ H a = some (.tup [.str "part", .int n, .ref b]) ∧ H b = some (.tup zs) ∧ fR H i zs) ∧ fR H r ys
def partR (H : Hp) (n : Int) (i : F) (v : V) : Prop := ∃ a b zs, v = .ref a ∧ H a = some (.tup [.str "part", .int n, .ref b]) ∧ H b = some (.tup zs) ∧ fR H i zs
def thR (H : Hp) : Th → V → Prop
  | .say n ws, v => sayR H n ws v
  | .tell n sc ph bs ms, v => tellR H n sc ph bs ms v
  | .part n i, v => partR H n i v
theorem fR_iff {H : Hp} : ∀ {f : F} {xs : List V}, fR H f xs ↔ Paired (thR H) f.ths xs
  | .nil, xs => ⟨fun h => by cases (show xs = [] from h); exact .nil, fun h => by cases h; exact rfl⟩
  | .say n ws r, xs => ⟨fun ⟨v, ys, e, q, z⟩ => by subst e; exact .cons q (fR_iff.mp z), fun h => by cases h with | cons q z => exact ⟨_, _, rfl, q, fR_iff.mpr z⟩⟩
  | .tell n sc ph bs ms r, xs => ⟨fun ⟨v, ys, e, q, z⟩ => by subst e; exact .cons q (fR_iff.mp z), fun h => by cases h with | cons q z => exact ⟨_, _, rfl, q, fR_iff.mpr z⟩⟩
  | .part n i r, xs => ⟨fun ⟨v, ys, e, q, z⟩ => by subst e; exact .cons q (fR_iff.mp z), fun h => by cases h with | cons q z => exact ⟨_, _, rfl, q, fR_iff.mpr z⟩⟩
def TSame (H H' : Hp) : Prop := ∀ b xs, H b = some (.tup xs) → H' b = some (.tup xs)
theorem Same.t {H H' : Hp} (g : Same H H') : TSame H H' := fun b xs q => g b _ q
theorem TSame.refl (H : Hp) : TSame H H := fun _ _ q => q
theorem TSame.trans {H H1 H2 : Hp} (g : TSame H H1) (g' : TSame H1 H2) : TSame H H2 := fun b xs q => g' b xs (g b xs q)
theorem TSame.upd {H : Hp} {p : Addr} {o : HO} (h : ∀ xs, H p ≠ some (.tup xs)) : TSame H (upd H p o) := fun b xs q => by
  have hb : b ≠ p := fun e => by
    rw [e] at q
    exact h xs q
  rw [upd_ne hb]
  exact q
theorem TSame.lst {H : Hp} {p : Addr} {ys : List V} {o : HO} (h : H p = some (.lst ys)) : TSame H (L2.upd H p o) := TSame.upd fun xs q => by
  rw [h] at q
  cases q
theorem TSame.new {H : Hp} {p : Addr} {o : HO} (h : H p = none) : TSame H (L2.upd H p o) := TSame.upd fun xs q => by
  rw [h] at q
  cases q
theorem wR.mono {H H' : Hp} {ws : List Str} {v : V} (h : wR H ws v) (g : TSame H H') : wR H' ws v := let ⟨a, e, q⟩ := h; ⟨a, e, g _ _ q⟩
theorem cpR.mono {H H' : Hp} {cp : Str × Str} {v : V} (h : cpR H cp v) (g : TSame H H') : cpR H' cp v := let ⟨a, e, q⟩ := h; ⟨a, e, g _ _ q⟩
theorem bR.mono {H H' : Hp} {bs : List (Str × Str)} {v : V} (h : bR H bs v) (g : TSame H H') : bR H' bs v := let ⟨a, xs, e, q, p⟩ := h; ⟨a, xs, e, g _ _ q, Paired.mapP p fun _ _ z => z.mono g⟩
theorem sayR.mono {H H' : Hp} {n : Int} {ws : List Str} {v : V} (h : sayR H n ws v) (g : TSame H H') : sayR H' n ws v := let ⟨a, x, e, q, p⟩ := h; ⟨a, x, e, g _ _ q, p.mono g⟩
theorem tellR.mono {H H' : Hp} {n : Int} {sc : Str} {ph : List Str} {bs : List (Str × Str)} {ms : List Str} {v : V} (h : tellR H n sc ph bs ms v) (g : TSame H H') : tellR H' n sc ph bs ms v := let ⟨a, x, y, z, e, q, p1, p2, p3⟩ := h; ⟨a, x, y, z, e, g _ _ q, p1.mono g, p2.mono g, p3.mono g⟩
theorem fR_mono {H H' : Hp} (g : TSame H H') : ∀ {f : F} {xs : List V}, fR H f xs → fR H' f xs
  | .nil, _, h => h
  | .say n ws r, _, ⟨v, ys, e, q, z⟩ => ⟨v, ys, e, q.mono g, fR_mono g z⟩
  | .tell n sc ph bs ms r, _, ⟨v, ys, e, q, z⟩ => ⟨v, ys, e, q.mono g, fR_mono g z⟩
  | .part n i r, _, ⟨v, ys, e, ⟨a, b, zs, e1, q1, q2, q3⟩, z⟩ => ⟨v, ys, e, ⟨a, b, zs, e1, g _ _ q1, g _ _ q2, fR_mono g q3⟩, fR_mono g z⟩
theorem thR.mono {H H' : Hp} {t : Th} {v : V} (h : thR H t v) (g : TSame H H') : thR H' t v := by
  cases t with
  | say n ws => exact sayR.mono h g
  | tell n sc ph bs ms => exact tellR.mono h g
  | part n i =>
    obtain ⟨a, b, zs, e, q1, q2, q3⟩ := h
    exact ⟨a, b, zs, e, g _ _ q1, g _ _ q2, fR_mono g q3⟩
abbrev thsR (H : Hp) : List Th → List V → Prop := Paired (thR H)
theorem thsR.mono {H H' : Hp} {ts : List Th} {xs : List V} (h : thsR H ts xs) (g : TSame H H') : thsR H' ts xs := Paired.mapP h fun _ _ z => z.mono g
section
variable {X : Cx} {pins : List (Addr × Obj)} {σ : St} {H : Hp} {s : Shared}
theorem eqS_strs {A : Around} : ∀ ws : List Str, Paired (EqS A s) (ws.map V.str) (ws.map V.str)
  | [] => .nil
  | w :: r => .cons (eqS_str w) (eqS_strs r)
theorem eqS_w (I : Inv X pins σ H s) {A : Around} {ws : List Str} {x y : V} (h : wR H ws x) (h' : wR H ws y) (hu : A.units < cLine) : EqS A s x y := by
  obtain ⟨a, rfl, q⟩ := h
  obtain ⟨b, rfl, q'⟩ := h'
  exact eqS_tup I (SqT.of q) (SqT.of q') hu (eqS_strs ws)
theorem eqS_b (I : Inv X pins σ H s) {A : Around} {bs : List (Str × Str)} {x y : V} (h : bR H bs x) (h' : bR H bs y) (hu : A.units + 1 < cLine) : EqS A s x y := by
  obtain ⟨a, xs, rfl, q, p⟩ := h
  obtain ⟨b, ys, rfl, q', p'⟩ := h'
  refine eqS_tup I (SqT.of q) (SqT.of q') (by omega) ?_
  have hu' : A.in1.units < cLine := hu
  clear q q' hu
  induction p generalizing ys with
  | nil => cases p'; exact .nil
  | cons z r ih =>
    cases p' with
    | cons z' r' =>
      obtain ⟨c, rfl, k⟩ := z
      obtain ⟨d, rfl, k'⟩ := z'
      exact .cons (eqS_tup I (SqT.of k) (SqT.of k') hu' (.cons (eqS_str _) (.cons (eqS_str _) .nil))) (ih _ r')
theorem eqS_say (I : Inv X pins σ H s) {A : Around} {n : Int} {ws : List Str} {x y : V} (h : sayR H n ws x) (h' : sayR H n ws y) (hu : A.units + 1 < cLine) : EqS A s x y := by
  obtain ⟨a, v, rfl, q, p⟩ := h
  obtain ⟨b, u, rfl, q', p'⟩ := h'
  exact eqS_tup I (SqT.of q) (SqT.of q') (by omega) (.cons (eqS_str _) (.cons (eqS_int _) (.cons (eqS_w I p p' hu) .nil)))
theorem eqS_tell (I : Inv X pins σ H s) {A : Around} {n : Int} {sc : Str} {ph : List Str} {bs : List (Str × Str)} {ms : List Str} {x y : V} (h : tellR H n sc ph bs ms x) (h' : tellR H n sc ph bs ms y) (hu : A.units + 2 < cLine) : EqS A s x y := by
  obtain ⟨a, v1, v2, v3, rfl, q, p1, p2, p3⟩ := h
  obtain ⟨b, u1, u2, u3, rfl, q', r1, r2, r3⟩ := h'
  have h1 : A.in1.units < cLine := by show A.units + 1 < cLine; omega
  have h2 : A.in1.units + 1 < cLine := by show A.units + 1 + 1 < cLine; omega
  exact eqS_tup I (SqT.of q) (SqT.of q') (by omega) (.cons (eqS_str _) (.cons (eqS_int _) (.cons (eqS_str _) (.cons (eqS_w I p1 r1 h1) (.cons (eqS_b I p2 r2 h2) (.cons (eqS_w I p3 r3 h1) .nil))))))
theorem eqS_f (I : Inv X pins σ H s) : ∀ (f : F) {A : Around} {xs ys : List V}, fR H f xs → fR H f ys → A.units + f.need < cLine → Paired (EqS A s) xs ys
  | .nil, _, xs, ys, h, h', _ => by
    cases (show xs = [] from h)
    cases (show ys = [] from h')
    exact .nil
  | .say n ws r, A, _, _, ⟨v, vs, rfl, q, z⟩, ⟨u, us, rfl, q', z'⟩, hu => by
    have hu' : A.units + max 3 r.need < cLine := hu
    exact .cons (eqS_say I q q' (by omega)) (eqS_f I r z z' (by omega))
  | .tell n sc ph bs ms r, A, _, _, ⟨v, vs, rfl, q, z⟩, ⟨u, us, rfl, q', z'⟩, hu => by
    have hu' : A.units + max 4 r.need < cLine := hu
    exact .cons (eqS_tell I q q' (by omega)) (eqS_f I r z z' (by omega))
  | .part n i r, A, _, _, ⟨v, vs, rfl, k, z⟩, ⟨u, us, rfl, m, z'⟩, hu => by
    obtain ⟨a, b, zs, rfl, k1, k2, k3⟩ := k
    obtain ⟨c, d, ws, rfl, m1, m2, m3⟩ := m
    have hu' : A.units + max (i.need + 2) r.need < cLine := hu
    have h1 : A.in1.units < cLine := by show A.units + 1 < cLine; omega
    have h2 : A.in1.in1.units + i.need < cLine := by show A.units + 1 + 1 + i.need < cLine; omega
    exact .cons (eqS_tup I (SqT.of k1) (SqT.of m1) (by omega) (.cons (eqS_str _) (.cons (eqS_int _) (.cons (eqS_tup I (SqT.of k2) (SqT.of m2) h1 (eqS_f I i k3 m3 h2)) .nil)))) (eqS_f I r z z' (by omega))
end
end L2
namespace L2
open PySem PySem.Spec PyProof.Rows
section
variable {prog : Program} {w : World} {A : Around} {E : Value → Shared → Prop} {s : Shared}
theorem getItem_tuple_all {t sl : Addr} {items : Array Value} {vl vu : Value} {lo hi : Option Int} {Q : Value → Shared → Prop} (ht : IsTup s.heap t items) (hs : s.heap.IsSliceOf sl vl vu .none) (pl : IsPart vl lo) (pu : IsPart vu hi)
    (hw : HT.sIx items.size 0 lo = 0 ∧ HT.sIx items.size items.size hi = items.size) (h : Q (.ref t) s) : wpAny (model prog w) A (getItem (.ref t) (.ref sl)) Q E s := by
  obtain ⟨o1, e1, c1, _⟩ := id hs
  have k1 : s.TypeIs (.ref sl) "slice" := ⟨o1, e1, c1⟩
  unfold getItem
  try with_reducible refine wpAny_holding ?_
  first | refine wpAny_bind (wpAny_pure ?_) | skip
  refine wpAny_bind (wpAny_sequenceKey ht.typeIs (by decide) (wpAny_bind (wpAny_callSpecial?_slot (name := Str.ofString "__getitem__") ht.typeIs PyProof.Rows.slot_tuple_getitem (wpAny_call_entry PyProof.Rows.slot_tuple_getitem ht.typeIs entry_tuple_getitem ?_ (args_tuple_getitem _ _)))))
  show wpAny _ _ (Builtin.Tuple.tupleItemsOf (.ref t) >>= _) _ _ s
  refine wpAny_bind (tupleItemsOf_ ht (wpAny_bind (wpAny_typeOf k1 ?_)))
  rw [if_pos (by decide)]
  refine wpAny_bind (HT.sliceApplied_gen hs pl pu ?_)
  rw [hw.1, hw.2]
  show wpAny _ _ (if ((((0 : Nat) : Int) == 0 && (1 : Int) == 1 && (items.size - 0) == items.size) = true) then _ else _) _ _ s
  rw [if_pos (by simp)]
  unfold Builtin.Tuple.tupleIsExact
  refine wpAny_bind (wpAny_bind (wpAny_typeOf ht.typeIs (wpAny_pure ?_)))
  rw [if_pos (by decide)]
  first
    | exact wpAny_bind (wpAny_rule (wpAny_pure ⟨_, rfl, wpAny_pure h⟩))
    | exact wpAny_bind (wpAny_rule (wpAny_bind (wpAny_pure (wpAny_pure ⟨_, rfl, wpAny_pure h⟩))))
    | exact wpAny_bind (wpAny_bind (wpAny_rule (wpAny_pure (wpAny_pure ⟨_, rfl, wpAny_pure h⟩))))
    | trace_state
end
section
variable {X : Cx}
def rSlW (K : PySem.W.Frag) : V → Option Int → Option Int → Hp → VK → Prop := fun x lo hi H Q => ∃ a xs, x = .ref a ∧ SqT K H a xs ∧ (HT.sIx xs.length 0 lo = 0 ∧ HT.sIx xs.length xs.length hi = xs.length) ∧ Q (.ref a) H
theorem sl_tupW : SlR X (rSlW X.K) := by
  intro pins s σ H x v vl vu lo hi sl Q I rx hs pl pu h
  obtain ⟨a, xs, rfl, hx, hw, q⟩ := h
  cases rx
  obtain ⟨its, r, ht, hz⟩ := I.tuple hx
  have hlen : its.toArray.size = xs.length := by rw [List.size_toArray]; exact r.length.symm
  exact ⟨"tuple", _, PyProof.Rows.slot_tuple_getitem.lookup, ht.typeIs, getItem_tuple_all ht hs pl pu (by rw [hlen]; exact hw) ⟨.ref a, H, I, rfl, q⟩⟩
end
end L2
namespace L2
open PySem
theorem Same.push {H : Hp} {p : Addr} (h : H p = none) (o : HO) : Same H (upd H p o) := fun b u q => by rw [upd_ne (ne_of_none q h)]; exact q
section
variable {X : Cx}
def rSlX : V → Option Int → Option Int → Hp → VK → Prop := fun x lo hi H Q => ∃ a xs, x = .ref a ∧ H a = some (.tup xs) ∧ ∀ p H', Same H H' → H' p = some (.tup (cutV xs lo hi)) → Q (.ref p) H'
theorem sl_tupX : SlR X rSlX := by
  intro pins s σ H x v vl vu lo hi sl Q I rx hs pl pu h
  refine (SlR.or sl_tup sl_tupW) pins s σ H x v vl vu lo hi sl Q I rx hs pl pu ?_
  obtain ⟨a, xs, rfl, hx, q⟩ := h
  by_cases hw : HT.sIx xs.length 0 lo = 0 ∧ HT.sIx xs.length xs.length hi = xs.length
  · refine .inr ⟨a, xs, rfl, SqT.of hx, hw, q a H (Same.refl H) ?_⟩
    have e : cutV xs lo hi = xs := by
      unfold cutV
      rw [hw.1, hw.2, List.drop_zero, Nat.sub_zero, List.take_length]
    rw [e]
    exact hx
  · exact .inl ⟨a, xs, rfl, SqT.of hx, hw, fun p hp => q p _ (Same.push hp _) upd_same⟩
def rCatX : R2 := fun x y H Q => ∃ a b xs ys, x = .ref a ∧ y = .ref b ∧ H a = some (.tup xs) ∧ H b = some (.tup ys) ∧ xs.length + ys.length ≤ sizeLine ∧ ∀ p H', Same H H' → H' p = some (.tup (xs ++ ys)) → Q (.ref p) H'
theorem op_catX : OpR X (binaryOp .Add) rCatX := by
  intro pins s σ H x y v u Q I rx ry h
  refine (OpR.or op_catT op_catT0) pins s σ H x y v u Q I rx ry ?_
  obtain ⟨a, b, xs, ys, rfl, rfl, ha, hb, hz, q⟩ := h
  cases xs with
  | nil => exact .inr ⟨a, b, ys, rfl, rfl, SqT.of ha, SqT.of hb, q b H (Same.refl H) hb⟩
  | cons z zs =>
    refine .inl ⟨a, b, _, ys, rfl, rfl, SqT.of ha, SqT.of hb, by simp, hz, fun e => ?_, fun e p hp => q p _ (Same.push hp _) upd_same⟩
    subst e
    exact q a H (Same.refl H) (by rw [List.append_nil]; exact ha)
end
end L2
namespace L2
open PySem PySem.Spec PyProof.Rows
def hideOk (N N' : List Str) (sc : Scope) : Bool := decide (N'.length = N.length) && (N.zip N').all fun p => decide (p.1 = p.2) || decide (sc.names.lookup p.2 = none)
def Hid (N N' : List Str) (σ : St) : Prop := ∀ (i : Nat) (y : Str), N[i]? = some y → N'[i]? ≠ some y → σ[i]? = some none
section
variable {X : Cx} {N' : List Str} {pins : List (Addr × Obj)} {σ : St} {H : Hp} {s : Shared}
end
end L2
namespace L2
open PySem
section
variable {P : Program} {w : World} {K : PySem.W.Frag} {mg : Str → Option Value} {base : Heap} {f : Addr}
theorem pe_dX {N : List Str} {qual : Str} {scope : Scope} {cd : Value} {A : Around} {outer : List Env} {s₀ : Shared} {H₀ : Hp} {E : XK} {k k' : Nat} {x : Str} {ps : List Str} {sp : Sp} {p pos : Pos} {e : Expr} {es : List Expr} {t : TA}
    (G : Def P w K mg base (CXX P w) k x ps sp) (hr : Room k' (A.deeper (PyProof.Rows.envOfC qual scope s₀.heap.objs.size f cd))) (hk : k ≤ k') (ha : PA (cxOf (CXX P w) P w K mg base N qual scope f cd A outer s₀ H₀ E) (e :: es) t) (hg : Gl (cxOf (CXX P w) P w K mg base N qual scope f cd A outer s₀ H₀ E) x := by rfl) (hdb : (x == ("__debug__" : Str)) = false := by decide)
    (he : starEach (e :: es) (cxOf (CXX P w) P w K mg base N qual scope f cd A outer s₀ H₀ E).env = (false, eval e (cxOf (CXX P w) P w K mg base N qual scope f cd A outer s₀ H₀ E).env) :: starEach es (cxOf (CXX P w) P w K mg base N qual scope f cd A outer s₀ H₀ E).env := by rfl) (hpl : (backTo pos (starEach es (cxOf (CXX P w) P w K mg base N qual scope f cd A outer s₀ H₀ E).env)).any (·.1) = false := by rfl) :
    PE (cxOf (CXX P w) P w K mg base N qual scope f cd A outer s₀ H₀ E) (.Call (.Name x p) (e :: es) [] pos) (tCall sp [] E0 t) := pe_defE (E := E0) G (hr.mono hk) (passes_def fun _ _ _ h => h.elim) ha hg hdb he hpl
theorem pe_d0 {N : List Str} {qual : Str} {scope : Scope} {cd : Value} {A : Around} {outer : List Env} {s₀ : Shared} {H₀ : Hp} {E : XK} {k k' : Nat} {x : Str} {ps : List Str} {sp : Sp} {p pos : Pos} {e : Expr} {es : List Expr} {t : TA}
    (G : Def P w K mg base CX0 k x ps sp) (hr : Room k' (A.deeper (PyProof.Rows.envOfC qual scope s₀.heap.objs.size f cd))) (hk : k ≤ k') (ha : PA (cxOf (CXX P w) P w K mg base N qual scope f cd A outer s₀ H₀ E) (e :: es) t) (hg : Gl (cxOf (CXX P w) P w K mg base N qual scope f cd A outer s₀ H₀ E) x := by rfl) (hdb : (x == ("__debug__" : Str)) = false := by decide)
    (he : starEach (e :: es) (cxOf (CXX P w) P w K mg base N qual scope f cd A outer s₀ H₀ E).env = (false, eval e (cxOf (CXX P w) P w K mg base N qual scope f cd A outer s₀ H₀ E).env) :: starEach es (cxOf (CXX P w) P w K mg base N qual scope f cd A outer s₀ H₀ E).env := by rfl) (hpl : (backTo pos (starEach es (cxOf (CXX P w) P w K mg base N qual scope f cd A outer s₀ H₀ E).env)).any (·.1) = false := by rfl) :
    PE (cxOf (CXX P w) P w K mg base N qual scope f cd A outer s₀ H₀ E) (.Call (.Name x p) (e :: es) [] pos) (tCall sp [] E0 t) := pe_defE (E := E0) G.anyCX (hr.mono hk) (passes_def fun _ _ _ h => h.elim) ha hg hdb he hpl
end
end L2
namespace L2
open PySem
section
variable {X : Cx}
theorem op_rep3 : OpR X (binaryOp .Mult) (fun x y H Q => ∃ z : Str, x = .str z ∧ y = .int 3 ∧ 1 ≤ z.length ∧ z.length ≤ 1000 ∧ Q (.str ⟨z.cps ++ z.cps ++ z.cps⟩) H) := by
  intro pins s σ H x y v u Q I rx ry h
  obtain ⟨z, rfl, rfl, h1, h2, q⟩ := h
  obtain ⟨t, rfl⟩ := rx
  obtain ⟨t', rfl⟩ := ry
  have e0 : (z.length == 0) = false := by
    cases e : (z.length == 0) with
    | false => rfl
    | true => have : z.length = 0 := by simpa using e
              omega
  refine PySem.P.mul_str (by decide) (fun _ _ => by
    have : (2 ^ 63 - 1) / (3 : Int) = 3074457345618258602 := by decide
    rw [this]
    omega) (fun _ _ => ?_) ?_
  · unfold Builtin.Str.tooLong
    have : sizeLine ≥ 100000 := by decide
    simp
    omega
  · rw [if_neg (by decide), e0]
    have e1 : ((3 : Int) == 1 || false) = false := by decide
    rw [e1, if_neg Bool.false_ne_true]
    have e2 : (List.replicate (3 : Int).toNat z.cps).foldl (· ++ ·) #[] = z.cps ++ z.cps ++ z.cps := by
      show ((#[] ++ z.cps) ++ z.cps) ++ z.cps = _
      rw [Array.empty_append]
    rw [e2]
    refine ⟨?_, ⟨.str ⟨z.cps ++ z.cps ++ z.cps⟩, H, I.tok _, ⟨_, rfl⟩, q⟩⟩
    show (z.cps ++ z.cps ++ z.cps).size ≤ sizeLine
    have hb : sizeLine ≥ 100000 := by decide
    have h2' : z.cps.size ≤ 1000 := h2
    rw [Array.size_append, Array.size_append]
    omega
end
theorem comp_range {lo : Int} {n : Nat} {te : TE} {fin : List V → Hp → Prop} {σ : St} {H : Hp} (Pv : Nat → List V → Hp → Prop) (hz : n ≤ sizeLine) (h0 : Pv 0 [] H) (hl : ∀ i ys H, i ≤ n → Pv i ys H → ys.length ≤ i)
    (hs : ∀ i ys H, i < n → Pv i ys H → ∀ (KY : V → Hp → Prop), (∀ y H3, Pv (i + 1) (ys ++ [y]) H3 → KY y H3) → te (σ ++ [some (.int (lo + i))]) H KY)
    (hd : ∀ ys H, Pv n ys H → fin ys H) : CompRd (Itr lo n) tYes te fin σ H := by
  refine ⟨fun i m ys H => m = n - i ∧ i ≤ n ∧ Pv i ys H, ⟨n, by simp, Nat.zero_le _, h0⟩, ?_⟩
  rintro i m ys H ⟨rfl, hi, p⟩
  have hy := hl i ys H hi p
  by_cases hlt : i < n
  · refine .inr ⟨hlt, fun x H' y => ?_⟩
    obtain ⟨e, e2⟩ := y
    subst e e2
    unfold tYes
    dsimp only
    rw [if_pos rfl]
    exact hs i ys _ hlt p _ fun z H3 p3 => ⟨by omega, n - (i + 1), by omega, rfl, hlt, p3⟩
  · have e : i = n := by omega
    subst e
    exact .inl ⟨Nat.le_refl _, hd ys H p⟩
end L2
namespace L2
open PySem PySem.Spec PyProof.Rows
structure CompOkP (N : List Str) (fs scope : Scope) (zs : List Str) : Prop where
  kind : scope.kind = .function
  cell : ∀ y ∈ scope.names, y.2 ≠ NameKind.cell
  free : ∀ y ∈ scope.names, y.2 = NameKind.free → fs.names.lookup y.1 = some .cell ∨ fs.names.lookup y.1 = some .free
  locs : ∀ y ∈ scope.names, y.2 = NameKind.local → scope.names.lookup y.1 = some .local ∧ y.1 ∉ N
  own : ∀ x ∈ zs, scope.names.lookup x = some .local
def compOkP (N : List Str) (fs scope : Scope) (zs : List Str) : Bool :=
  decide (scope.kind = .function) && scope.names.all (fun y => decide (y.2 ≠ NameKind.cell) && (decide (y.2 ≠ NameKind.free) || decide (fs.names.lookup y.1 = some .cell) || decide (fs.names.lookup y.1 = some .free)) &&
    (decide (y.2 ≠ NameKind.local) || (decide (scope.names.lookup y.1 = some .local) && decide (y.1 ∉ N)))) && zs.all (fun x => decide (scope.names.lookup x = some .local))
theorem CompOkP.of {N : List Str} {fs scope : Scope} {zs : List Str} (h : compOkP N fs scope zs = true) : CompOkP N fs scope zs := by
  unfold compOkP at h
  simp only [Bool.and_eq_true, Bool.or_eq_true, decide_eq_true_eq, List.all_eq_true] at h
  obtain ⟨⟨h1, h2⟩, h3⟩ := h
  refine ⟨h1, fun y hy => (h2 y hy).1.1, fun y hy e => ?_, fun y hy e => ?_, h3⟩
  · rcases (h2 y hy).1.2 with (z | z) | z
    · exact absurd e z
    · exact .inl z
    · exact .inr z
  · rcases (h2 y hy).2 with z | z
    · exact absurd e z
    · exact z
def compCxP (X : Cx) (zs : List Str) (scope : Scope) (cl : List (Str × Addr)) (C : Addr) (fp : List Addr) (s₀ : Shared) (H₀ : Hp) : Cx :=
  { X with N := X.N ++ zs, s₀ := s₀, H₀ := H₀, env := compEnvC scope cl C X.env, outer := X.stack, stack := X.stack, ex := fp, fn := fun _ => false, pn := [], xe := fun _ _ => False }
section
variable {X : Cx} {pins : List (Addr × Obj)} {σ : St} {H : Hp} {s : Shared}
theorem comp_invP {zs : List Str} {scope : Scope} {cl : List (Str × Addr)} {C : Addr} {fp : List Addr} {s' : Shared} (I : Inv X pins σ H s) (ok : CompOkP X.N X.env.scope scope zs)
    (c1 : ∀ y c, cl.lookup y = some c → X.env.cells.lookup y = some c) (c2 : ∀ y, (y, NameKind.free) ∈ scope.names → ∃ c, cl.lookup y = some c) (hf : ∀ b ∈ fp, FpOk X pins H b)
    (hC : s.heap.objs.size ≤ C) (hn : s'.heap.Ns C fun _ => none) (hk : ∀ b o, s.heap.get? b = some o → s'.heap.get? b = some o) (ho : s'.os = s.os) (hg : s'.gens = s.gens) (hfs : ∀ b ∈ fp, b < s.heap.objs.size) :
    Inv (compCxP X zs scope cl C fp s H) [] (σ ++ (zs.map fun _ => (none : Option V))) H s' := by
  have fresh : H C = none := I.hok.fresh hC
  have CneC : ∀ y c, cl.lookup y = some c → c ≠ C := fun y c e z => by
    obtain ⟨v, q⟩ := I.cell y c (c1 y c e)
    exact absurd (Nat.lt_of_lt_of_le q.lt (by rw [z]; exact hC)) (Nat.lt_irrefl _)
  refine ⟨⟨I.ok.mod, ok.kind, I.ok.glob, I.ok.blt, hC, fun y z c h1 h2 => I.ok.inj y z c (c1 y c h1) (c1 z c h2), fun y hy => ?_, fun y c z => ?_, I.ok.hd, I.ok.frames, .inl rfl, fun b hb => ⟨?_, fun y c e => (hf b hb).2.2.2.2.1 y c (c1 y c e)⟩,
      I.bs, Nat.le_trans I.ok.bsz I.sz, fun b o e hb => ?_, fun b hb hb2 => ?_, I.stack, I.stkFree⟩,
    ho, by rw [hg]; exact I.bare, Un.kept hk, ⟨_, hn, fun i y v h1 h2 h3 => ?_⟩, fun y c e => ?_, fresh, fun y c e => I.freeC y c (c1 y c e), fun p hp => absurd (show p ∈ ([] : List (Addr × Obj)) from hp) (by simp), I.hok.kept hk, ?_⟩
  · -- has
    have hy : (relabel scope X.env).names.lookup y = some .cell ∨ (relabel scope X.env).names.lookup y = some .free := hy
    have hm : (y, NameKind.free) ∈ scope.names := by
      rcases hy with hy | hy
      · rcases relabel_kind hy with ⟨_, z⟩ | ⟨_, _, z⟩
        · exact absurd rfl (ok.cell _ z)
        · exact z
      · rcases relabel_kind hy with ⟨_, z⟩ | ⟨_, _, z⟩
        · exact z
        · exact z
    exact c2 y hm
  · exact absurd (show false = true from z) (by decide)
  · exact Nat.ne_of_lt (Nat.lt_of_lt_of_le (hfs b hb) hC)
  · -- noex
    rcases (hf b hb).2.2.2.1 with z | z
    · exact I.ok.noex b o e z
    · exact absurd (Nat.lt_of_lt_of_le (Heap.lt_size (I.ok.bs b o e).1) z) (Nat.lt_irrefl _)
  · -- exfs
    have hb2 : b ∈ frs X.stack := hb2
    rcases List.mem_cons.mp (I.stkSub b hb2) with z | z
    · exact (hf b hb).2.1 z
    · exact (hf b hb).2.2.1 z
  · -- a name that is seen in the block is one of the function's cells
    have hy : (relabel scope X.env).names.lookup y = some .local ∨ (relabel scope X.env).names.lookup y = some .cell ∨ (relabel scope X.env).names.lookup y = some .free := h3
    have h1 : (X.N ++ zs)[i]? = some y := h1
    by_cases hi : i < X.N.length
    · have e1 : X.N[i]? = some y := by rw [List.getElem?_append_left hi] at h1; exact h1
      have e2 : σ[i]? = some (some v) := by rw [List.getElem?_append_left (by rw [I.len]; exact hi)] at h2; exact h2
      have hyN : y ∈ X.N := List.mem_of_getElem? e1
      have hm : ((y, NameKind.free) ∈ scope.names) ∧ ((relabel scope X.env).names.lookup y = some .cell ∨ (relabel scope X.env).names.lookup y = some .free) := by
        rcases hy with hy | hy | hy
        · rcases relabel_kind hy with ⟨_, z⟩ | ⟨z, _⟩
          · exact absurd hyN (ok.locs _ z rfl).2
          · cases z
        · rcases relabel_kind hy with ⟨_, z⟩ | ⟨_, _, z⟩
          · exact absurd rfl (ok.cell _ z)
          · exact ⟨z, .inl hy⟩
        · rcases relabel_kind hy with ⟨_, z⟩ | ⟨_, _, z⟩
          · exact ⟨z, .inr hy⟩
          · exact ⟨z, .inr hy⟩
      obtain ⟨c, hc⟩ := c2 y hm.1
      obtain ⟨m, _, hl⟩ := I.loc
      have hv : Vis X.env.scope y := by
        rcases ok.free _ hm.1 rfl with z | z
        · exact .inr (.inl z)
        · exact .inr (.inr z)
      obtain ⟨u, r, l⟩ := hl i y v e1 e2 hv
      refine ⟨u, r, .inr ⟨hm.2, c, hc, ?_⟩⟩
      rcases l with ⟨kl, _⟩ | ⟨_, c', e', q⟩
      · have kl : X.env.scope.names.lookup y = some .local := kl
        rcases ok.free _ hm.1 rfl with z | z
        · rw [kl] at z; cases z
        · rw [kl] at z; cases z
      · rw [c1 y c hc] at e'
        cases e'
        obtain ⟨oc, hoc, hd⟩ := q
        exact ⟨oc, hk _ _ hoc, hd⟩
    · rw [List.getElem?_append_right (by rw [I.len]; omega)] at h2
      rw [List.getElem?_map] at h2
      cases e : zs[i - σ.length]? with
      | none => rw [e] at h2; cases h2
      | some u => rw [e] at h2; cases h2
  · obtain ⟨v, oc, hoc, hd⟩ := I.cell y c (c1 y c e)
    exact ⟨v, oc, hk _ _ hoc, hd⟩
  · show (σ ++ (zs.map fun _ => (none : Option V))).length = (X.N ++ zs).length
    rw [List.length_append, List.length_append, I.len, List.length_map]
end
def CompRdP (n : Nat) (J : It) (gt : TG) (te : TE) (fin : List V → Hp → Prop) (σ : St) (H : Hp) : Prop :=
  ∃ W : Nat → Nat → List V → Hp → Prop, (∃ m, W 0 m [] H) ∧ ∀ i m ys H, W i m ys H →
    (J.stop i H ∧ fin ys H) ∨ (J.go i H ∧ ∀ x H', J.yld i H x H' → ∀ us : St, us.length = n → gt x (σ ++ us) H' fun σ2 H2 => ∃ us' : St, us'.length = n ∧ σ2 = σ ++ us' ∧
      te σ2 H2 fun y H3 => ys.length < sizeLine ∧ ∃ m', m' < m ∧ W (i + 1) m' (ys ++ [y]) H3)
section
variable {X : Cx} {pins : List (Addr × Obj)} {σ : St} {H : Hp} {s : Shared} {E : Value → Shared → Prop}
theorem comp_coreP {elt iter : Expr} {es : List Expr} {x1 : Nat} {tp : Pos} {zs : List Str} {scope : Scope} {pos : Pos} {cl : List (Str × Addr)} {J : It} {it : Addr} {fp : List Addr} {tn : Nat → Heap → Prop} {gt : TG} {te : TE} {fin : List V → Hp → Prop}
    {RR : Value → Addr → Result → Shared → Prop} (I : Inv X pins σ H s) (hcalm : X.calm = true) (ok : CompOkP X.N X.env.scope scope zs) (gok : ∀ C fp s₀ H₀, PG (compCxP X zs scope cl C fp s₀ H₀) (.Tuple es x1 tp) gt)
    (c1 : ∀ y c, cl.lookup y = some c → X.env.cells.lookup y = some c) (c2 : ∀ y, (y, NameKind.free) ∈ scope.names → ∃ c, cl.lookup y = some c)
    (T : Turn X.prog X.w X.K (.Tuple es x1 tp) J fp it tn) (st : tn 0 s.heap) (hf : ∀ b ∈ fp, FpOk X pins H b)
    (he : ∀ C fp s₀ H₀, PE (compCxP X zs scope cl C fp s₀ H₀) elt te) (rd : CompRdP zs.length J gt te fin σ H)
    (hR : ∀ (D C : Addr) (ys : List V) (H' : Hp) (s' : Shared), H' D = none → fin ys H' → Inv X pins σ (upd H' D (.lst ys)) s' → (∃ m, s'.heap.Ns C m) → FpOk X pins (upd H' D (.lst ys)) C → RR (.ref D) C (.ok .next) s') :
    wpAny (model X.prog X.w) X.A (newList []) (fun acc s₃ => wpAny (model X.prog X.w) X.A (newFunctionEnv scope X.env.globals cl [] X.env.qual none .none (some X.env)) (fun cenv s₄ =>
      codeAny (model X.prog X.w) X.A (.compStart (.ListComp elt [⟨.Tuple es x1 tp, iter, [], 0⟩] scope pos) 0 (.ref it) acc { cenv with scope := relabel scope X.env }) (RR acc cenv.locals) s₄) E s₃) E s := by
  refine wpAny_newObj_type (wpAny_newFunctionEnv ok.cell (by intro y hy; simp at hy) (fun h₁ hns₁ hsb₁ => ?_) ok.kind)
  dsimp only at hns₁ hsb₁ ⊢
  generalize hH2 : s.heap.push { cls := .type "list", dict := none, data := .seq ([] : List Value).toArray } = H2 at hns₁ hsb₁ ⊢
  have hC : H2.objs.size = s.heap.objs.size + 1 := by rw [← hH2, Heap.size_push]
  have hDC : s.heap.objs.size ≠ H2.objs.size := by rw [hC]; exact Nat.ne_of_lt (Nat.lt_succ_self _)
  have hCle : s.heap.objs.size ≤ H2.objs.size := by rw [hC]; exact Nat.le_succ _
  have below : ∀ b, b < s.heap.objs.size → b ≠ H2.objs.size ∧ b ≠ s.heap.objs.size := fun b hb => ⟨by rw [hC]; exact Nat.ne_of_lt (Nat.lt_succ_of_lt hb), Nat.ne_of_lt hb⟩
  have old : ∀ b o, s.heap.get? b = some o → h₁.get? b = some o := fun b o e => hsb₁.extBut b o (below b (Heap.lt_size e)).1 (Heap.get?_push_of_some _ (hH2 ▸ Heap.get?_push_of_some _ e))
  have hD : h₁.get? s.heap.objs.size = some (listAt [] 0) := hsb₁.extBut _ _ hDC (Heap.get?_push_of_some _ (hH2 ▸ Heap.get?_push_size _ rfl))
  have hfs : ∀ b ∈ fp, b < s.heap.objs.size := fun b hb => let ⟨_, e, _⟩ := T.obj 0 _ st b hb; Heap.lt_size e
  have hns₂ : h₁.Ns H2.objs.size fun _ => none := by
    have e : (fun x => ([] : List (Str × Value)).reverse.lookup x) = fun _ => none := rfl
    rw [e] at hns₁
    exact hns₁
  obtain ⟨W, ⟨m0, w0⟩, turn⟩ := rd
  generalize hDD : s.heap.objs.size = D at *
  generalize hCC : H2.objs.size = C at *
  have Dle : s.heap.objs.size ≤ D := Nat.le_of_eq hDD
  have loop : ∀ s₃ : Shared, s₃ = { s with heap := h₁, toks := s.toks + ([] : List (Str × Value)).length } →
      codeAny (model X.prog X.w) X.A (.compLoop (.ListComp elt [⟨.Tuple es x1 tp, iter, [], 0⟩] scope pos) 0 (.ref it) (.ref D) (compEnvC scope cl C X.env)) (RR (.ref D) C) s₃ := by
    rintro s₃ rfl
    have I0 : Inv (compCxP X zs scope cl C fp s H) [] (σ ++ (zs.map fun _ => (none : Option V))) H { s with heap := h₁, toks := s.toks + ([] : List (Str × Value)).length } :=
      comp_invP I ok c1 c2 hf (by rw [hDD]; exact hCle) hns₂ old rfl rfl (fun b hb => by rw [hDD]; exact hfs b hb)
    have cellD : ∀ y c, cl.lookup y = some c → c ≠ D := fun y c e z => by
      obtain ⟨v, q⟩ := I.cell y c (c1 y c e)
      exact absurd q.lt (by rw [z, ← hDD]; exact Nat.lt_irrefl _)
    have stat : ∀ {H' : Hp} {pl : List (Addr × Obj)}, (∀ p ∈ pl, p.1 = D) → (∀ b ∈ fp, H' b = none) → ∀ b ∈ fp, FpOk (compCxP X zs scope cl C fp s H) pl H' b := fun {H' pl} hpl hn b hb =>
      ⟨hn b hb, (below b (hfs b hb)).1, fun hb2 => by
        have hb2 : b ∈ frs X.stack := hb2
        rcases List.mem_cons.mp (I.stkSub b hb2) with z | z
        · exact (hf b hb).2.1 z
        · exact (hf b hb).2.2.1 z, .inl hb, fun y c e => (hf b hb).2.2.2.2.1 y c (c1 y c e), fun p hp => by
          have hp : p ∈ [] ++ pl := hp
          rw [hpl p (by simpa using hp)]
          exact Ne.symm (below b (hfs b hb)).2⟩
    have pinD : ∀ {σ' : St} {H' : Hp} {s' : Shared} {its : List Value} {c : Nat}, Inv (compCxP X zs scope cl C fp s H) [] σ' H' s' → s'.heap.get? D = some (listAt its c) → H' D = none → Inv (compCxP X zs scope cl C fp s H) [(D, listAt its c)] σ' H' s' := fun {σ' H' s' its c} I' e n =>
      I'.pins_of fun p hp => by
        have hp : p = (D, listAt its c) := by simpa using hp
        subst hp
        refine ⟨e, n, hDC, fun hb2 => ?_, fun v z => by cases z⟩
        have hb2 : D ∈ frs X.stack := hb2
        rcases List.mem_cons.mp (I.stkSub D hb2) with z | z
        · exact absurd I.lt (by rw [← z, ← hDD]; exact Nat.lt_irrefl _)
        · exact I.nofs Dle z
    refine LCp.codeAny_compLoop_pair (fun n s' => ∃ i us H' ys its c, us.length = zs.length ∧ Inv (compCxP X zs scope cl C fp s H) [] (σ ++ us) H' s' ∧ tn i s'.heap ∧ (∀ b ∈ fp, H' b = none) ∧ s'.heap.get? D = some (listAt its c) ∧ H' D = none ∧ Vals ys its ∧ ys.length ≤ sizeLine ∧ W i n ys H')
      ?_ m0 ⟨0, (zs.map fun _ => (none : Option V)), H, [], [], 0, List.length_map _, I0, T.keep 0 _ _ st fun b _ o e => old b o e, fun b hb => (hf b hb).1, hD, I.hok.fresh Dle, .nil, Nat.zero_le _, w0⟩
    rintro n s' ⟨i, us, H', ys, its, c, lus, I1, st1, fr1, e1, n1, r1, z1, w1⟩
    have I1p := pinD I1 e1 n1
    have fok1 := stat (H' := H') (pl := [(D, listAt its c)]) (fun p hp => by simp at hp; rw [hp]) fr1
    rcases turn i n ys H' w1 with ⟨stop, qf⟩ | ⟨go, step⟩
    · refine thn (T.done (compCxP X zs scope cl C fp s H) rfl rfl rfl hcalm i _ s' _ H' _ I1p fok1 st1 stop) fun r s2 ⟨hr, I2⟩ => ?_
      subst hr
      obtain ⟨e2, n2, _⟩ := I2.pin (D, listAt its c) (List.mem_append_right _ (by simp))
      have u2 : Un (frs X.stack) fp H H' s.heap s2.heap := I2.base
      have neD : ∀ b o, s.heap.get? b = some o → b ≠ D := fun b o e => (below b (by rw [← hDD]; exact Heap.lt_size e)).2
      have tD : ∀ b o, H' b = some o → b ≠ D := fun b o e z => by rw [z, n1] at e; cases e
      have hok2 : HOk X.prog X.w (upd H' D (.lst ys)) s2.heap := fun b o e => by
        by_cases hb : b = D
        · subst hb
          rw [upd_same] at e
          cases e
          exact ⟨z1, its, c, r1, e2⟩
        · rw [upd_ne hb] at e
          exact (I2.hok b o e).stay (fun _ _ _ q => q) (fun d q => by rw [upd_ne (tD d _ q)]; exact q) fun d xs q => by rw [upd_ne (tD d _ q)]; exact q
      have I3 : Inv X pins σ (upd H' D (.lst ys)) s2 := I.call' (ch := fp) (show s2.os = s.os from I2.os)
        ⟨u2.keep, u2.slot, fun b o e n hx => by rw [upd_ne (neD b o e)]; exact u2.free b o e n hx, u2.there, fun b xs e => by
          have q := u2.tups b xs e
          rw [upd_ne (tD b _ q)]; exact q, fun b o u e => by
          have q := u2.frzs b o u e
          rw [upd_ne (tD b _ q)]; exact q, fun b ps e => by
          obtain ⟨more, q⟩ := u2.tbls b ps e
          exact ⟨more, by rw [upd_ne (tD b _ q)]; exact q⟩⟩ hok2 I2.bare (fun b hb => ⟨(hf b hb).2.2.2.1, (hf b hb).2.1, (hf b hb).2.2.2.2.1, (hf b hb).2.2.2.2.2⟩)
      obtain ⟨m2, hm2, _⟩ := I2.loc
      exact hR D C ys H' s2 n1 qf I3 ⟨m2, hm2⟩ (I.fpOk (by rw [hDD]; exact hCle) (by rw [upd_ne (Ne.symm hDC)]; exact I2.free))
    · refine thn (T.item (compCxP X zs scope cl C fp s H) rfl rfl rfl hcalm i _ s' _ H' _ I1p fok1 st1 go) fun r s2 ⟨u, hr, h2⟩ => ?_
      subst hr
      refine thn h2 fun _ s3 ⟨y, H3, I3, ry, yl, st3, fr3⟩ => ?_
      obtain ⟨e3, n3, _⟩ := I3.pin (D, listAt its c) (List.mem_append_right _ (by simp))
      have I3p := I3.pinned (stat (pl := [(D, listAt its c)]) (fun p hp => by simp at hp; rw [hp]) fr3) (T.obj _ _ st3)
      refine thnF (gok C fp s H _ s3 _ H3 y u _ I3p ry (step y H3 yl us lus)) fun _ s4 ⟨σ4, H4, I4, us', lus', hσ, q4⟩ => ?_
      subst hσ
      have back : ∀ {H6 : Hp} {s6 : Shared} {its' : List Value} {c' : Nat}, Inv (compCxP X zs scope cl C fp s H) (pinsAt fp s3.heap) (σ ++ us') H6 s6 → s6.heap.get? D = some (listAt its' c') → H6 D = none → ∀ {ys' : List V} {m' : Nat}, Vals ys' its' → ys'.length ≤ sizeLine → m' < n → W (i + 1) m' ys' H6 →
          ∃ m, m < n ∧ ∃ i us H' ys its c, us.length = zs.length ∧ Inv (compCxP X zs scope cl C fp s H) [] (σ ++ us) H' s6 ∧ tn i s6.heap ∧ (∀ b ∈ fp, H' b = none) ∧ s6.heap.get? D = some (listAt its c) ∧ H' D = none ∧ Vals ys its ∧ ys.length ≤ sizeLine ∧ W i m ys H' :=
        fun {H6 s6 its' c'} I6 e6 n6 {ys' m'} r6 z6 lt6 w6 => by
          refine ⟨m', lt6, i + 1, us', H6, ys', its', c', lus', I6.pins_of (fun p hp => by simp at hp), T.keep _ _ _ st3 fun b hb o e => (I6.pin (b, o) (List.mem_append_right _ (mem_pinsAt hb e))).1, fun b hb => ?_, e6, n6, r6, z6, w6⟩
          obtain ⟨o, e, _⟩ := T.obj _ _ st3 b hb
          exact (I6.pin (b, o) (List.mem_append_right _ (mem_pinsAt hb e))).2.1
      refine thnF (he C fp s H _ s4 _ H4 _ I4 q4) fun yv s6 ⟨z, H6, I6, rz, hl6, m', lt, w6⟩ => ?_
      obtain ⟨e6, n6, _⟩ := I6.pin (D, listAt its c) (List.mem_append_right _ (by simp))
      have hlen := r1.length
      refine call_meets F.slot_list_append ⟨_, e6, rfl⟩ F.entry_list_append (F.args_list_append_2 _ _) (PySem.list_append D its.toArray c yv (by rw [List.size_toArray]; omega)) ⟨e6, ?_⟩
      have q := PySem.IsL.update e6 (·.push yv)
      have I6' : Inv (compCxP X zs scope cl C fp s H) (pinsAt fp s3.heap) (σ ++ us') H6 s6 := I6.pins_of fun p hp => I6.pin p (List.mem_append_right _ (List.mem_append_right _ hp))
      have I7 : Inv (compCxP X zs scope cl C fp s H) (pinsAt fp s3.heap) (σ ++ us') H6 { s6 with heap := s6.heap.update D (Obj.mapSeq (·.push yv)) } :=
        I6'.turned (it := D) (t' := s6.toks) (fun b o hb e => (Heap.get?_update_other s6.heap (Obj.mapSeq (·.push yv)) (Ne.symm hb)).trans e) n6 hDC (.inr Dle) (fun y c e => cellD y c e) (fun p hp => by
          have hp : p ∈ [] ++ pinsAt fp s3.heap := hp
          obtain ⟨hb, _⟩ := of_pinsAt (show p ∈ pinsAt fp s3.heap by simpa using hp)
          exact (below _ (hfs _ hb)).2)
      exact back I7 (its' := its ++ [yv]) (by
        have q' := q
        simp only [List.push_toArray] at q'
        exact q') n6 (r1.append (.cons rz .nil)) (by rw [List.length_append, List.length_singleton]; omega) lt w6
  exact codeAny_compStart_list (loop _ rfl) (T.self X.A 0 _ _ _ (T.keep 0 _ _ st fun b _ o e => old b o e) (loop _ rfl))
def tCompP (n : Nat) (K : PySem.W.Frag) (wi : TI) (te : TE) : TE := fun σ H Q => wi σ H fun J H1 => CompRdP 2 J (gTup K 2 (gCons (gName n) (gCons (gName (n + 1)) gNil))) te (fun ys H2 => ∀ p, H2 p = none → Q (.ref p) (upd H2 p (.lst ys))) σ H1
end
end L2
namespace L2
open PySem PySem.Spec PyProof.Rows
section
variable {X : Cx}
theorem ps_setcompP {i : Nat} {y : Str} {py spos : Pos} {elt iter : Expr} {x y2 : Str} {px py2 tp : Pos} {x1 : Nat} {scope : Scope} {pos : Pos} {wi : TI} {te : TE} (N : List Str) (fs : Scope) (hcalm : X.calm = true) (ok : compOkP N fs scope [x, y2] = true) (hN : (N ++ [x, y2]).Nodup) (hi : PI X (.Tuple [.Name x px, .Name y2 py2] x1 tp) iter wi)
    (he : ∀ cl C fp s₀ H₀, PE (compCxP X [x, y2] scope cl C fp s₀ H₀) elt te) (hy : X.N[i]? = some y) (hyl : Loc X.env.scope y)
    (hsw : swapsWith (.ListComp elt [⟨.Tuple [.Name x px, .Name y2 py2] x1 tp, iter, [], 0⟩] scope pos) (some (.Name y py)) spos.line X.env = pure true := by rfl)
    (hs : ∀ x, foldedSetIterable iter X.env x = pure x := by intro _; rfl) (hf : X.fn y = true ∨ X.env.scope.names.lookup y = some .local := by first | exact .inl rfl | exact .inr rfl | assumption) (eN : X.N = N := by rfl) (eS : X.env.scope = fs := by rfl) :
    PS X (.Assign [.Name y py] (.ListComp elt [⟨.Tuple [.Name x px, .Name y2 py2] x1 tp, iter, [], 0⟩] scope pos) spos) (tAsg (tCompP N.length X.K wi te) (gName i)) := by
  intro pins s σ H D I h
  subst eN eS
  have ok := CompOkP.of ok
  obtain ⟨cl, hcl, c1, c2⟩ := closure_of (scope := scope) (env := X.env) fun y hy e => I.ok.has y.1 (ok.free y hy e)
  rw [exec_Assign_Name_used _ _ _ _ hsw]
  refine wpAny_bind (wpAny_standAt (wpAny_bind ?_))
  have ee : evalThenUse (.ListComp elt [⟨.Tuple [.Name x px, .Name y2 py2] x1 tp, iter, [], 0⟩] scope pos) X.env (assign (.Name y py) X.env) = (comprehension (.ListComp elt [⟨.Tuple [.Name x px, .Name y2 py2] x1 tp, iter, [], 0⟩] scope pos) scope X.env (firstIterPos [⟨.Tuple [.Name x px, .Name y2 py2] x1 tp, iter, [], 0⟩] pos) (newList []) (firstAsync [⟨.Tuple [.Name x px, .Name y2 py2] x1 tp, iter, [], 0⟩]) (firstIter [⟨.Tuple [.Name x px, .Name y2 py2] x1 tp, iter, [], 0⟩] X.env) (some (assign (.Name y py) X.env)) >>= fun _ => pure ()) := rfl
  rw [ee]
  refine wpAny_bind (wpAny_comprehension_free (use := some (assign (.Name y py) X.env)) rfl hs hcl ok.kind (fun y hy e => (ok.locs y hy e).1) (thn (hi pins s σ H _ I h) fun v s1 h1 => thn h1 fun itv s2 h2 => ?_))
  have hgt : ∀ C fp s₀ H₀, PG (compCxP X [x, y2] scope cl C fp s₀ H₀) (.Tuple [.Name x px, .Name y2 py2] x1 tp) (gTup X.K 2 (gCons (gName X.N.length) (gCons (gName (X.N.length + 1)) gNil))) := fun C fp s₀ H₀ => by
    have hxl : (relabel scope X.env).names.lookup x = some .local := lookup_relabel_local (ok.own x (by simp))
    have hyl : (relabel scope X.env).names.lookup y2 = some .local := lookup_relabel_local (ok.own y2 (by simp))
    refine pg_tup (X := compCxP X [x, y2] scope cl C fp s₀ H₀) hcalm (pgs_cons (pg_name (X := compCxP X [x, y2] scope cl C fp s₀ H₀) hN ?_ (.inl hxl) (.inr hxl)) (pgs_cons (pg_name (X := compCxP X [x, y2] scope cl C fp s₀ H₀) hN ?_ (.inl hyl) (.inr hyl)) pgs_nil))
    · show (X.N ++ [x, y2])[X.N.length]? = some x
      rw [List.getElem?_append_right (Nat.le_refl _), Nat.sub_self] <;> rfl
    · show (X.N ++ [x, y2])[X.N.length + 1]? = some y2
      have e : X.N.length + 1 - X.N.length = 1 := by omega
      rw [List.getElem?_append_right (by omega), e] <;> rfl
  obtain ⟨it, fp, tn, J, H2, e, I2, T, st2, f2, rd⟩ := h2
  subst e
  refine comp_coreP (RR := fun acc C => compPost (model X.prog X.w) X.A X.xe (some (assign (.Name y py) X.env)) _ acc C) I2 hcalm ok hgt c1 c2 T st2 f2 (he cl) rd fun A C ys H' s' hA q I' hm fC => ?_
  obtain ⟨m, o, es, ep, ho, hd, hr⟩ := hm
  have I'' : Inv X (pins ++ [(C, o)]) σ (upd H' A (.lst ys)) s' := I'.pins_of fun p hp => by
    rcases List.mem_append.mp hp with z | z
    · exact I'.pin p (List.mem_append_right _ z)
    · have z : p = (C, o) := by simpa using z
      subst z
      exact ⟨ho, fC.1, fC.2.1, fC.2.2.1, fun v z => by rw [hd] at z; cases z⟩
  refine thn (pg_name (X := X) (i := i) (x := y) (hN.sublist (List.sublist_append_left _ _)) hy hyl hf _ s' σ _ (.ref A) (.ref A) (fun σ' H'' => σ' = σ.set i (some (.ref A)) ∧ H'' = upd H' A (.lst ys)) I'' rfl ⟨rfl, rfl⟩) fun _ s3 ⟨σ3, H3, I3, e1, e2⟩ => ?_
  subst e1 e2
  obtain ⟨ho3, n3, _⟩ := I3.pin (C, o) (List.mem_append_right _ (by simp))
  refine ⟨m, ⟨o, es, ep, ho3, hd, hr⟩, fun h' hs' => wpAny_pure (wpAny_pure ⟨_, _, ?_, q A hA⟩)⟩
  exact (I3.pins_of fun p hp => I3.pin p (List.mem_append_right _ (List.mem_append_left _ hp))).turned (it := C) (t' := s3.toks) (fun b o hb e => (hs'.2 b hb).trans e) n3 fC.2.1 fC.2.2.2.1 fC.2.2.2.2.1 fC.2.2.2.2.2
end
def PX (X : Cx) (e : Expr) (g : St → Hp → Str → Prop) : Prop :=
  ∀ (pins : List (Addr × Obj)) (s : Shared) (σ : St) (H : Hp) (y : Str), Inv X pins σ H s → g σ H y → wpAny (model X.prog X.w) X.A (eval e X.env) (fun v s' => ∃ tk, v = .str y tk ∧ Inv X pins σ H s') X.xe s
def PXs (X : Cx) : List Expr → (St → Hp → List Str → Prop) → Prop
  | [], g => g = fun _ _ ys => ys = []
  | e :: es, g => ∃ g1 g2, g = (fun σ H ys => ∃ y zs, ys = y :: zs ∧ g1 σ H y ∧ g2 σ H zs) ∧ PX X e g1 ∧ PXs X es g2
section
variable {X : Cx}
theorem px_const {x : Str} {j : Nat} {pos : Pos} : PX X (.Constant (.str x) j pos) (fun _ _ y => y = x) := fun pins s σ H y I e => by
  subst e
  exact Calls.Constant_str ⟨_, rfl, I.tok _⟩
theorem px_str {e : Expr} {t : TE} {pos : Pos} (h : PE X e t) : PX X (.FormattedValue e (-1) none pos) (fun σ H y => y.length ≤ sizeLine ∧ t σ H fun v H' => v = .str y ∧ H' = H) := by
  intro pins s σ H y I ⟨hl, hw⟩
  refine wpAny_FormattedValue_plain (thn (h pins s σ H _ I hw) fun v s1 ⟨z, H1, I1, r1, e1, e2⟩ => ?_)
  subst e1 e2
  obtain ⟨tk, rfl⟩ := r1
  exact wpAny_formatField_str ⟨_, rfl, I1⟩ ⟨_, rfl, I1.tok _⟩ hl
theorem pxs_nil : PXs X [] (fun _ _ ys => ys = []) := rfl
theorem pxs_cons {e : Expr} {es : List Expr} {g1 : St → Hp → Str → Prop} {g2 : St → Hp → List Str → Prop} (h1 : PX X e g1) (h2 : PXs X es g2) : PXs X (e :: es) (fun σ H ys => ∃ y zs, ys = y :: zs ∧ g1 σ H y ∧ g2 σ H zs) := ⟨g1, g2, rfl, h1, h2⟩
def glue (acc : Str) : List Str → Str
  | [] => acc
  | y :: r => glue (acc ++ y) r
theorem joinsV {pins : List (Addr × Obj)} {σ : St} {H : Hp} {Q : Str → Shared → Prop} : ∀ (es : List Expr) (g : St → Hp → List Str → Prop) (acc : Str) (ys : List Str) (s : Shared), PXs X es g → g σ H ys → acc.length + (ys.map (·.length)).sum ≤ sizeLine → Inv X pins σ H s →
    (∀ s' : Shared, Inv X pins σ H s' → Q (glue acc ys) s') → Joins (model X.prog X.w) X.A X.xe (evalEach es X.env) acc Q s
  | [], g, acc, ys, s, hp, hg, ha, I, hQ => by
    have hp : g = fun _ _ ys => ys = [] := hp
    subst hp
    have hg : ys = [] := hg
    subst hg
    exact hQ s I
  | e :: es, g, acc, ys, s, hp, hg, ha, I, hQ => by
    obtain ⟨g1, g2, rfl, h1, h2⟩ := hp
    obtain ⟨y, zs, rfl, k1, k2⟩ := hg
    show wpAny (model X.prog X.w) X.A (eval e X.env) _ X.xe s
    refine thn (h1 pins s σ H y I k1) fun v s1 ⟨tk, ev, I1⟩ => ?_
    have el : (acc ++ y).length = acc.length + y.length := Str.length_append acc y
    rw [List.map_cons, List.sum_cons] at ha
    exact ⟨y, tk, ev, by omega, joinsV es g2 (acc ++ y) zs s1 h2 k2 (by omega) I1 hQ⟩
def tFst (g : St → Hp → List Str → Prop) : TE := fun σ H Q => ∃ ys, g σ H ys ∧ (ys.map (·.length)).sum ≤ sizeLine ∧ ((glue Str.empty ys).length ≤ sizeLine → Q (.str (glue Str.empty ys)) H)
theorem glue_len : ∀ (ys : List Str) (acc : Str), (glue acc ys).length = acc.length + (ys.map (·.length)).sum
  | [], acc => by show _ = _ + 0; rfl
  | y :: r, acc => by
    show (glue (acc ++ y) r).length = _
    rw [glue_len r, List.map_cons, List.sum_cons, Str.length_append]
    omega
theorem pe_fstrV {v1 v2 : Expr} {rest : List Expr} {pos : Pos} {g : St → Hp → List Str → Prop} (h : PXs X (v1 :: v2 :: rest) g) : PE X (.JoinedStr (v1 :: v2 :: rest) pos) (tFst g) := by
  intro pins s σ H Q I ⟨ys, hw, hz, hq⟩
  have hl : (glue Str.empty ys).length ≤ sizeLine := by
    have e0 : Str.empty.length = 0 := rfl
    rw [glue_len, e0]
    omega
  refine wpAny_JoinedStr (joinsV _ g Str.empty ys s h hw ?_ I fun s1 I1 => ⟨hl, .str _, H, I1.tok _, ⟨_, rfl⟩, hq hl⟩)
  show 0 + _ ≤ _
  omega
end
end L2
namespace L2
open PySem PySem.Spec PyProof.Rows
def Ite (K : PySem.W.Frag) (a : Addr) : It :=
  ⟨fun i H => ∃ xs x, SqL K H a xs ∧ xs[i]? = some x,
   fun i H v H' => ∃ p x, v = .ref p ∧ H p = none ∧ H' = upd H p (.tup [.int (i : Nat), x]) ∧ ∀ xs, SqL K H a xs → xs[i]? = some x,
   fun i H => ∃ xs, SqL K H a xs ∧ i = xs.length⟩
structure EnumAt (e it a : Addr) (i : Nat) (h : Heap) : Prop where
  e : ∃ old, IsEnum h e it i old
  l : h.IsListIter it a i
section
variable {P : Program} {w : World} {K : PySem.W.Frag} {elts : List Expr} {kt : Nat} {pt : Pos}
theorem turn_enum (e it a : Addr) (D : e ≠ it) : Turn P w K (.Tuple elts kt pt) (Ite K a) [e, it] e (EnumAt e it a) where
  mem := by simp
  obj := fun i h st c hc => by
    obtain ⟨old, ho⟩ := st.e
    obtain ⟨o2, e2, _, d2⟩ := st.l
    simp only [List.mem_cons, List.not_mem_nil, or_false] at hc
    rcases hc with rfl | rfl
    · exact ⟨_, ho, fun v z => nomatch z⟩
    · exact ⟨o2, e2, fun v z => by rw [d2] at z; cases z⟩
  keep := fun i h h' st k => by
    obtain ⟨old, ho⟩ := st.e
    exact ⟨⟨old, k e (by simp) _ ho⟩, st.l.at fun o q => k it (by simp) o q⟩
  item := by
    intro X hP hw hK hc i pins s σ H E I hf st hg
    subst hP hw hK
    obtain ⟨xs, x, qa, hx⟩ := hg
    obtain ⟨its, r, p, z⟩ := I.list qa
    obtain ⟨u, hu, ru⟩ := r.get hx
    obtain ⟨old, ho⟩ := st.e
    refine wpAny_pyNext_enum_item ho st.l p.isList (by simpa using hu) D fun g b1 b2 b3 b4 b5 => ⟨_, rfl, ?_⟩
    refine wpAny_letOwnedTupleGo_enum b1 fun g2 y2 e2 => ?_
    replace e2 : Heap.SameBut e g g2 := e2
    have lt : ∀ c o, s.heap.get? c = some o → c ≠ s.heap.objs.size := fun c o q => Nat.ne_of_lt (Heap.lt_size q)
    have hzs : s.heap.objs.size ≠ e := (lt _ _ ho).symm
    refine ⟨.ref s.heap.objs.size, upd H s.heap.objs.size (.tup [.int (i : Nat), x]), I.turnedNew (t' := s.toks + 1) (ch := [e, it]) (fun c o hc q => e2.extBut _ _ (fun z => hc (by simp [z])) (b5 c o (fun z => hc (by simp [z])) (fun z => hc (by simp [z])) q)) (fun c hc => hf c hc) (Nat.le_refl _) ?_, rfl, ?_, ?_, ?_⟩
    · exact ⟨by show 2 ≤ sizeLine; decide, [.int (i : Nat) s.toks, u], .cons ⟨_, rfl⟩ (.cons ru .nil), ⟨_, e2.extBut _ _ hzs b3, rfl, _, rfl⟩⟩
    · exact ⟨_, x, rfl, I.hok.fresh (Nat.le_refl _), rfl, fun zs hz => by rw [I.list_inj hz qa]; exact hx⟩
    · exact ⟨⟨_, y2⟩, b2.extBut e2.extBut (Ne.symm D)⟩
    · intro c hc
      obtain ⟨o, hoc⟩ : ∃ o, s.heap.get? c = some o := by
        obtain ⟨o2, e3, _⟩ := st.l
        simp only [List.mem_cons, List.not_mem_nil, or_false] at hc
        rcases hc with rfl | rfl
        · exact ⟨_, ho⟩
        · exact ⟨_, e3⟩
      rw [upd_ne (lt c o hoc)]
      exact (hf c hc).1
  done := by
    intro X hP hw hK hc i pins s σ H E I hf st hg
    subst hP hw hK
    obtain ⟨xs, qa, hx⟩ := hg
    obtain ⟨its, r, p, z⟩ := I.list qa
    obtain ⟨old, ho⟩ := st.e
    have hl := r.length
    refine wpAny_pyNext_enum_end (show X.A.handled = none from I.ok.hd hc) ho st.l p.isList (by simp; omega) fun g kp => ⟨rfl, I.turnedAll (t' := s.toks) (ch := [e, it]) (fun c o hc q => kp c o (fun z => hc (by simp [z])) q) fun c hc => hf c hc⟩
  self := fun _ _ _ _ _ st h => by
    obtain ⟨old, ho⟩ := st.e
    exact wpAny_pyIter_enum ho h
end
def iEnum (K : PySem.W.Frag) (ta : TA) : TI := fun σ H R => ta σ H fun vs H1 => ∃ a xs, vs = [.ref a] ∧ SqL K H1 a xs ∧ R (Ite K a) H1
section
variable {X : Cx} {elts : List Expr} {kt : Nat} {pt : Pos}
theorem pi_enum {e1 : Expr} {ta : TA} {p pos : Pos} (hg : Gl X "enumerate") (hm : X.mg "enumerate" = none) (ha : PA X [e1] ta) (hs : starEach [e1] X.env = [(false, eval e1 X.env)] := by rfl) :
    PI X (.Tuple elts kt pt) (.Call (.Name "enumerate" p) [e1] [] pos) (iEnum X.K ta) := by
  intro pins s σ H R I h
  refine Call_ (ld_blt I hg hm PyProof.Rows.Boot.enumerate (PyProof.Rows.callWith_type1 (thn (ha pos pins s σ H _ I h) fun us s1 ⟨vs, H1, I1, r1, q1⟩ => ?_) (by rw [hs] <;> rfl) (by rfl)))
  obtain ⟨a, xs, ev, qa, q⟩ := q1
  subst ev
  obtain ⟨u, rfl, ru⟩ := vals1 r1
  cases ru
  obtain ⟨its, _, p1, _⟩ := I1.list qa
  refine call_enumerate_list p1.isList fun g c1 c2 c3 kp => wpAny_pyIter_enum c1 ?_
  have I2 : Inv X pins σ H1 { s1 with heap := g } := I1.kept (t' := s1.toks) kp
  refine ⟨_, [s1.heap.objs.size + 1, s1.heap.objs.size], _, _, H1, rfl, I2, turn_enum _ _ a (Nat.succ_ne_self _), ⟨⟨_, c1⟩, c2⟩, fun c hc => ?_, q⟩
  have hc' : s1.heap.objs.size ≤ c := by
    simp only [List.mem_cons, List.not_mem_nil, or_false] at hc
    rcases hc with rfl | rfl
    · exact Nat.le_add_right _ _
    · exact Nat.le_refl _
  exact I1.fpOk hc' (I1.hok.fresh hc')
theorem for_enum {K : PySem.W.Frag} {a : Addr} {xs : List V} {g : TG} {tb : TS} {D : Ends} {σ : St} {H : Hp} (Pv : Nat → St → Hp → Prop) (h0 : Pv 0 σ H) (hl : ∀ i σ H, i ≤ xs.length → Pv i σ H → SqL K H a xs)
    (hs : ∀ i x σ H p, xs[i]? = some x → Pv i σ H → H p = none → g (.ref p) σ (upd H p (.tup [.int (i : Nat), x])) fun σ2 H2 => tb { D with nx := Pv (i + 1), ct := Pv (i + 1), bk := D.nx } σ2 H2) (hd : ∀ σ H, Pv xs.length σ H → D.nx σ H) :
    ∃ W : Nat → Nat → St → Hp → Prop, (∃ m, W 0 m σ H) ∧ ∀ i m σ H, W i m σ H →
      ((Ite K a).stop i H ∧ D.nx σ H) ∨ ((Ite K a).go i H ∧ ∃ N : St → Hp → Prop, (∀ σ' H', N σ' H' → ∃ m', m' < m ∧ W (i + 1) m' σ' H') ∧ ∀ x H', (Ite K a).yld i H x H' → g x σ H' fun σ2 H2 => tb { D with nx := N, ct := N, bk := D.nx } σ2 H2) := by
  refine ⟨fun i m σ H => m = xs.length - i ∧ i ≤ xs.length ∧ Pv i σ H, ⟨xs.length, by simp, Nat.zero_le _, h0⟩, ?_⟩
  rintro i m σ H ⟨rfl, hi, p⟩
  have qa := hl i σ H hi p
  by_cases hlt : i < xs.length
  · refine .inr ⟨⟨xs, xs[i], qa, by simp [hlt]⟩, Pv (i + 1), fun σ' H' p' => ⟨xs.length - (i + 1), by omega, rfl, hlt, p'⟩, ?_⟩
    rintro v H' ⟨r, x, rfl, hr, rfl, h1⟩
    exact hs i x σ H r (h1 xs qa) p hr
  · have e : i = xs.length := by omega
    subst e
    exact .inl ⟨⟨xs, qa, rfl⟩, hd σ H p⟩
end
end L2
namespace L2
open PySem PySem.Spec PyProof.Rows
section
variable {X : Cx}
theorem mt_splitN : MtR X "str.split" (fun x vs H Q => ∃ (z y : Str), x = .str z ∧ vs = [.str y] ∧ 1 ≤ y.length ∧ z.length + y.length + 2 ≤ sizeLine ∧ ∀ p, H p = none → Q (.ref p) (upd H p (.lst ((Txt.split z y).map V.str)))) := by
  intro pins s σ H x vs v us Q I rx rv h
  obtain ⟨z, y, rfl, rfl, hy1, hz, q⟩ := h
  obtain ⟨t, rfl⟩ := rx
  obtain ⟨u, rfl, ru⟩ := vals1 rv
  obtain ⟨t', rfl⟩ := ru
  have hy : (y.length == 0) = false := by
    cases hq : y.length with
    | zero => omega
    | succ k => rfl
  have fin : ∀ (l : List (Str × Tok)) (k : Nat), l.map (·.1) = Txt.split z y → EP X pins σ Q (.ref s.heap.objs.size) { s with heap := s.heap.push { cls := .type "list", data := .seq (strValues l).toArray }, toks := k } := fun l k e => by
    have hv := vals_strs l
    rw [e] at hv
    exact ⟨.ref _, _, I.lnew (t' := k) hv (by rw [List.length_map]; exact Nat.le_trans (split_count z y) (by omega)), rfl, q _ I.fresh⟩
  have hn : (Builtin.Str.partsBetween z (Builtin.Str.occurrences z y 0 z.length (z.length + 1)) y.length).length ≤ sizeLine := by
    have z1 := StrLaws.occ_length_le z y 0 z.length (z.length + 1)
    rw [length_partsBetween]
    omega
  by_cases h1 : (decide (z.length < y.length) || decide (Builtin.Str.strKind z < Builtin.Str.strKind y)) = true
  · exact call_meets F.slot_str_split (typeIs_str _ _ _) F.entry_str_split (F.args_str_split_2 _ _) (meets_str_split_cannot_occur z y t t' h1) (fin [(z, t)] s.toks (by unfold Txt.split; rw [if_pos h1] <;> rfl))
  by_cases hf : (Builtin.Str.occurrences z y 0 z.length (z.length + 1)).isEmpty = true
  · exact call_meets F.slot_str_split (typeIs_str _ _ _) F.entry_str_split (F.args_str_split_2 _ _) (meets_str_split_not_found z y t t' (Bool.eq_false_iff.mpr h1) hy hf) (fin [(z, t)] s.toks (by unfold Txt.split; rw [if_neg h1, if_pos hf] <;> rfl))
  have m := call_meets (prog := X.prog) (w := X.w) (A := X.A) (E := X.xe) (s := s) (Q := EP X pins σ Q) F.slot_str_split (typeIs_str _ _ _) F.entry_str_split (F.args_str_split_2 _ _) (meets_str_split_sep z y t t' (Bool.eq_false_iff.mpr h1) hy (Bool.eq_false_iff.mpr hf) (by omega) hn)
  refine m ?_
  have e : Txt.split z y = Builtin.Str.partsBetween z (Builtin.Str.occurrences z y 0 z.length (z.length + 1)) y.length := by unfold Txt.split; rw [if_neg h1, if_neg hf]
  have f := fin (numbered s.toks (Txt.split z y)) (s.toks + (Txt.split z y).length) (numbered_texts _ _)
  rw [← strsFrom_eq, e] at f
  exact f
theorem mt_starts : MtR X "str.startswith" (fun x vs H Q => ∃ z y, x = .str z ∧ vs = [.str y] ∧ Q (.bl (Txt.startswith z y)) H) := by
  intro pins s σ H x vs v us Q I rx rv h
  obtain ⟨z, y, rfl, rfl, q⟩ := h
  obtain ⟨t, rfl⟩ := rx
  obtain ⟨u, rfl, ru⟩ := vals1 rv
  obtain ⟨t', rfl⟩ := ru
  exact SC.startswith ⟨.bl (Txt.startswith z y), H, I, rfl, q⟩
def rInNone (K : PySem.W.Frag) : R2 := fun x y H Q => ∃ p xs, x = .non ∧ y = .ref p ∧ SqT K H p xs ∧ (∀ v ∈ xs, ∃ a ys, v = .ref a ∧ SqT K H a ys) ∧ Q (.bl false) H
theorem op_inNone (hu : X.A.in1.units < cLine) : OpR X (compareOp .In) (rInNone X.K) := by
  intro pins s σ H x y v u Q I rx ry h
  obtain ⟨p, xs, rfl, rfl, hq, hx, q⟩ := h
  cases rx
  cases ry
  obtain ⟨its, r, pl, hz⟩ := I.tuple hq
  refine SeqAt.in_tupleAt (fun _ => false) pl (fun w hw => ?_) ⟨.bl _, H, I, rfl, ?_⟩
  · have hw : w ∈ its := by simpa using hw
    obtain ⟨j, hj⟩ := List.getElem?_of_mem hw
    obtain ⟨v0, hv0, rv⟩ : ∃ v0, xs[j]? = some v0 ∧ RelV v0 w := by
      have hl := r.length
      have hj2 := (List.getElem?_eq_some_iff.mp hj).1
      have hj3 : j < xs.length := by omega
      obtain ⟨w', hw', rw'⟩ := r.get (List.getElem?_eq_getElem hj3)
      rw [hj] at hw'
      cases hw'
      exact ⟨_, List.getElem?_eq_getElem hj3, rw'⟩
    obtain ⟨a, ys, rfl, ha⟩ := hx v0 (List.mem_of_getElem? hv0)
    cases rv
    obtain ⟨its2, _, p2, _⟩ := I.tuple ha
    exact SeqAt.EqAt.tuple_none (show s.heap.IsTuple a its2.toArray from p2) hu
  · have e : its.toArray.any (fun _ => false) = false := by simp
    rw [e]
    exact q
end
theorem cut_unique {c : Nat} : ∀ {l1 l2 r1 r2 : List Nat}, l1 ++ c :: r1 = l2 ++ c :: r2 → c ∉ l1 → c ∉ l2 → l1 = l2 ∧ r1 = r2
  | [], [], _, _, h, _, _ => ⟨rfl, (List.cons.inj h).2⟩
  | [], b :: l2, _, _, h, _, h2 => absurd (List.cons.inj h).1 (fun z => h2 (by rw [z]; exact List.mem_cons_self))
  | a :: l1, [], _, _, h, h1, _ => absurd (List.cons.inj h).1.symm (fun z => h1 (by rw [z]; exact List.mem_cons_self))
  | a :: l1, b :: l2, r1, r2, h, h1, h2 => by
    obtain ⟨e1, e2⟩ := List.cons.inj h
    obtain ⟨e3, e4⟩ := cut_unique e2 (fun z => h1 (List.mem_cons_of_mem _ z)) fun z => h2 (List.mem_cons_of_mem _ z)
    exact ⟨by rw [e1, e3], e4⟩
end L2
namespace D
open PySem L2
def top (i : Nat) : Stmt := PySem.Challenge.pw_gloss_k16_whole_read_again.main.body.getD i (.Pass ⟨0, 0, 0, 0⟩)
abbrev s_is_word : Stmt := top 10
abbrev s_words_of : Stmt := top 11
abbrev s_text_of : Stmt := top 12
abbrev s_bent : Stmt := top 14
abbrev s_forms : Stmt := top 15
abbrev s_telling_row : Stmt := top 22
abbrev s_rows_within : Stmt := top 23
abbrev s_written : Stmt := top 24
abbrev s_read_words : Stmt := top 25
abbrev s_read_bend : Stmt := top 26
abbrev s_read_phrase_and_bends : Stmt := top 27
abbrev s_has_forms : Stmt := top 28
abbrev s_read_say : Stmt := top 29
abbrev s_read_telling : Stmt := top 30
abbrev s_read_row : Stmt := top 31
abbrev s_cut_in_rows : Stmt := top 32
abbrev s_end_part : Stmt := top 33
abbrev s_read : Stmt := top 34
abbrev s_l_cell : Stmt := top 36
abbrev s_l_mixed : Stmt := top 37
abbrev s_l_menu : Stmt := top 38
abbrev s_l_plain_words : Stmt := top 39
abbrev s_l_row : Stmt := top 40
abbrev s_l_bends : Stmt := top 41
abbrev s_l_thing : Stmt := top 42
abbrev s_l_number : Stmt := top 43
abbrev s_l_ended : Stmt := top 44
abbrev s_l_document : Stmt := top 45
abbrev s_l_line : Stmt := top 46
abbrev s_l_lines : Stmt := top 47
abbrev s_l_plain : Stmt := top 48
abbrev s_l_read : Stmt := top 49
abbrev s_law : Stmt := top 50
end D
namespace D
open PySem L2
def cellN (ns : List Int) (k : Int) : Int := if 0 < (ns.length : Int) then (ns.getD (k * 7 % (ns.length : Int)).toNat 0 * 48271 + k * 7919) % 2147483647 else k * 7919 + 5
def cellZ (ns : List Int) (k : Int) : Int := if k < (ns.length : Int) then ns.getD k.toNat 0 else cellN ns k * cellN ns k % 2147483629
def good (c : Nat) : Bool := (decide (97 ≤ c) && decide (c ≤ 122)) || (decide (65 ≤ c) && decide (c ≤ 90)) || (decide (48 ≤ c) && decide (c ≤ 57))
abbrev W62 : Str := ("abcdefghijklmnopqrstuvwxyzABCDEFGHIJKLMNOPQRSTUVWXYZ0123456789" : Str)
theorem at_nat {ns : List Int} {k : Int} (h0 : 0 ≤ k) (h : k < (ns.length : Int)) : atI (ns.map V.int) k = some (.int (ns.getD k.toNat 0)) := by
  have hk : k.toNat < ns.length := by omega
  have ek : k = ((k.toNat : Nat) : Int) := by omega
  have q : atI (ns.map V.int) ((k.toNat : Nat) : Int) = some (.int (ns.getD k.toNat 0)) := atI_nat (by rw [List.getElem?_map, List.getElem?_eq_getElem hk, List.getD_eq_getElem?_getD, List.getElem?_eq_getElem hk] <;> rfl)
  rw [← ek] at q
  exact q
def spCell (K : PySem.W.Frag) : Sp := fun vs H Q _ => ∃ (a : Addr) (ns : List Int) (k : Int), vs = [.ref a, .int k] ∧ SqL K H a (ns.map V.int) ∧ ns.length ≤ 63 ∧ 0 ≤ k ∧ k ≤ 100000 ∧ Q (.int (cellZ ns k)) H
section
variable {P : Program} {w : World} {K : PySem.W.Frag} {mg : Str → Option Value} {base : Heap} {f : Addr} {fd : FuncData}
theorem scCell : FnScope ["_law_script", "_law_k", "_law_number_here"] ["_law_script", "_law_k"] (defScope s_l_cell) := ⟨rfl, rfl, rfl, by decide +kernel, rfl, by decide +kernel, by decide +kernel⟩
theorem ok_cell (F : Fun K "_law_cell" "_law_cell" s_l_cell f fd) (ml : mg "len" = none) : FnOk P w K mg base CX0 1 f fd ["_law_script", "_law_k"] (spCell K) := by
  refine F.ok scCell (fun vs H Q E h => ?_) (fun cdv A outer s H vs Q E hr h => ?_)
  · obtain ⟨a, ns, k, rfl, _⟩ := h
    rfl
  obtain ⟨a, ns, k, rfl, hS, h63, h0, h1, q⟩ := h
  refine ⟨_, pss_cons (ps_if (pt_cmpR op_lt (pv 1) (pe_callB call_len_seq rfl ml PySem.boot_len (pa_cons (pv 0) pa_nil)) (nomark _)) (pss_one (ps_ret (pe_ix ix_list (pv 0) (pv 1) (fun _ _ => rfl)))) pss_nil)
    (pss_cons (ps_set (i := 2) scCell.nd rfl (Or.inl rfl) (pe_op op_add (pe_op op_mul (pv 1) pe_int) pe_int))
    (pss_cons (ps_if (pt_cmpR op_gt (pe_callB call_len_seq rfl ml PySem.boot_len (pa_cons (pv 0) pa_nil)) pe_int (nomark _))
      (pss_one (ps_set (i := 2) scCell.nd rfl (Or.inl rfl) (pe_op op_mod (pe_op op_add (pe_op op_mul (pe_ix ix_list (pv 0) (pe_op op_mod (pe_op op_mul (pv 1) pe_int) (pe_callB call_len_seq rfl ml PySem.boot_len (pa_cons (pv 0) pa_nil))) (fun _ _ => rfl)) pe_int) (pe_op op_mul (pv 1) pe_int)) pe_int))) pss_nil)
    (pss_one (ps_ret (pe_op op_mod (pe_op op_mul (pv 2) (pv 2)) pe_int))))), ?_⟩
  have hl : (ns.map V.int).length = ns.length := List.length_map _
  refine ⟨_, rfl, _, rfl, a, _, rfl, .inl hS, _, _, rfl, rfl, _, rfl, ?_⟩
  refine ite2 (fun c => ?_) (fun c => ?_)
  · have c' : k < (((ns.map V.int).length : Nat) : Int) := of_decide_eq_true c
    rw [hl] at c'
    refine ⟨_, rfl, _, rfl, a, _, _, _, rfl, rfl, hS, at_nat h0 c', ?_⟩
    have e : cellZ ns k = ns.getD k.toNat 0 := if_pos c'
    rw [e] at q
    exact q
  · have c' : ¬ k < (((ns.map V.int).length : Nat) : Int) := of_decide_eq_false (Bool.eq_false_iff.mpr c)
    rw [hl] at c'
    have e : cellZ ns k = cellN ns k * cellN ns k % 2147483629 := if_neg c'
    rw [e] at q
    refine ⟨_, rfl, _, _, rfl, rfl, .inr ⟨by decide, by decide⟩, _, _, rfl, rfl, ?_⟩
    refine ⟨_, rfl, a, _, rfl, .inl hS, _, _, rfl, rfl, _, rfl, ?_⟩
    refine ite2 (fun d => ?_) (fun d => ?_)
    · have d' : (0 : Int) < (((ns.map V.int).length : Nat) : Int) := of_decide_eq_true d
      rw [hl] at d'
      have hm0 : 0 ≤ k * 7 % (ns.length : Int) := Int.emod_nonneg _ (by omega)
      have hm1 : k * 7 % (ns.length : Int) < (ns.length : Int) := Int.emod_lt_of_pos _ d'
      have en : cellN ns k = (ns.getD (k * 7 % (ns.length : Int)).toNat 0 * 48271 + k * 7919) % 2147483647 := if_pos d'
      have b0 : 0 ≤ cellN ns k := by rw [en]; exact Int.emod_nonneg _ (by decide)
      have b1 : cellN ns k < 2147483647 := by rw [en]; exact Int.emod_lt_of_pos _ (by decide)
      refine ⟨_, rfl, _, rfl, _, _, rfl, rfl, .inr ⟨by decide, by decide⟩, _, rfl, a, _, rfl, .inl hS, _, _, rfl, rfl, by rw [hl]; exact d', a, _, _, _, rfl, rfl, hS, at_nat (by rw [hl]; exact hm0) (by rw [hl]; exact hm1), _, _, rfl, rfl, .inr ⟨by decide, by decide⟩,
        _, rfl, _, _, rfl, rfl, .inr ⟨by decide, by decide⟩, _, _, rfl, rfl, _, _, rfl, rfl, (by show (0 : Int) < _; decide), ?_⟩
      rw [hl]
      dsimp only
      rw [← en]
      exact ⟨_, rfl, _, rfl, _, _, rfl, rfl, .inl ⟨by omega, by omega⟩, _, _, rfl, rfl, (by show (0 : Int) < _; decide), q⟩
    · have d' : ¬ (0 : Int) < (((ns.map V.int).length : Nat) : Int) := of_decide_eq_false (Bool.eq_false_iff.mpr d)
      rw [hl] at d'
      have en : cellN ns k = k * 7919 + 5 := if_neg d'
      rw [en] at q
      exact ⟨_, rfl, _, rfl, _, _, rfl, rfl, .inl ⟨by omega, by omega⟩, _, _, rfl, rfl, (by show (0 : Int) < _; decide), q⟩
end
theorem same_new {H : Hp} {p : Addr} (h : H p = none) (o : HO) : Same H (upd H p o) := fun b u q => by rw [upd_ne (ne_of_none q h)]; exact q
abbrev cs (x : Str) : List Nat := x.cps.toList
theorem cs_len (x : Str) : (cs x).length = x.length := by simp [Str.length]
theorem cs_app (x y : Str) : cs (x ++ y) = cs x ++ cs y := by
  show (x.cps ++ y.cps).toList = _
  simp
theorem cs_mk (l : List Nat) : cs ⟨l.toArray⟩ = l := by simp
theorem len_mk (l : List Nat) : (⟨l.toArray⟩ : Str).length = l.length := by simp [Str.length]
theorem len_app (x y : Str) : (x ++ y).length = x.length + y.length := by rw [← cs_len, cs_app, List.length_append, cs_len, cs_len]
theorem str_ext {x y : Str} (h : cs x = cs y) : x = y := by
  cases x with
  | mk a =>
    cases y with
    | mk b => exact congrArg Str.mk (Array.toList_inj.mp h)
def allGood (x : Str) : Prop := (cs x).all good = true
theorem allGood.app {x y : Str} (h1 : allGood x) (h2 : allGood y) : allGood (x ++ y) := by
  unfold allGood
  rw [cs_app, List.all_append, h1, h2]
  rfl
theorem allGood.mk {l : List Nat} (h : l.all good = true) : allGood ⟨l.toArray⟩ := by
  unfold allGood
  rw [cs_mk]
  exact h
theorem all_take {l : List Nat} {n : Nat} (h : l.all good = true) : (l.take n).all good = true := by
  rw [List.all_eq_true] at h ⊢
  exact fun c hc => h c (List.mem_of_mem_take hc)
theorem all_drop {l : List Nat} {n : Nat} (h : l.all good = true) : (l.drop n).all good = true := by
  rw [List.all_eq_true] at h ⊢
  exact fun c hc => h c (List.mem_of_mem_drop hc)
theorem cut_from (x : Str) {i : Int} (h : 0 ≤ i) : cutC x (some i) none = (cs x).drop i.toNat := by
  have e : i = ((i.toNat : Nat) : Int) := by omega
  unfold cutC
  rw [e, HT.sIx_nat, HT.sIx_none]
  show ((cs x).drop (min i.toNat x.length)).take (x.length - min i.toNat x.length) = _
  rw [List.take_of_length_le (by rw [List.length_drop, cs_len]; exact Nat.le_refl _)]
  have ei : (((i.toNat : Nat) : Int)).toNat = i.toNat := by omega
  rw [ei]
  by_cases hi : i.toNat ≤ x.length
  · rw [Nat.min_eq_left hi]
  · rw [Nat.min_eq_right (by omega), List.drop_of_length_le (by rw [cs_len]; exact Nat.le_refl _), List.drop_of_length_le (by rw [cs_len]; omega)]
theorem cut_to (x : Str) {i : Int} (h : 0 ≤ i) : cutC x none (some i) = (cs x).take i.toNat := by
  have e : i = ((i.toNat : Nat) : Int) := by omega
  unfold cutC
  rw [e, HT.sIx_nat, HT.sIx_none]
  show ((cs x).drop 0).take (min i.toNat x.length - 0) = _
  have ei : (((i.toNat : Nat) : Int)).toNat = i.toNat := by omega
  rw [ei, List.drop_zero, Nat.sub_zero]
  by_cases hi : i.toNat ≤ x.length
  · rw [Nat.min_eq_left hi]
  · rw [Nat.min_eq_right (by omega), List.take_of_length_le (by rw [cs_len]; exact Nat.le_refl _), List.take_of_length_le (by rw [cs_len]; omega)]
theorem big : (100000 : Nat) ≤ sizeLine := by decide
theorem w62_good : (cs W62).all good = true := by decide +kernel
theorem w62_at {i : Int} (h0 : 0 ≤ i) (h1 : i < 62) : ∃ d, atI W62.cps.toList i = some d ∧ good d = true := by
  have hn : W62.cps.toList.length = 62 := by decide +kernel
  have hk : i.toNat < W62.cps.toList.length := by omega
  have ek : i = ((i.toNat : Nat) : Int) := by omega
  rw [ek]
  exact ⟨_, atI_nat (List.getElem?_eq_getElem hk), List.all_eq_true.mp w62_good _ (List.getElem_mem hk)⟩
structure Nm (mg : Str → Option Value) : Prop where
  len : mg "len" = none
  range : mg "range" = none
  int : mg "int" = none
  tuple : mg "tuple" = none
  list : mg "list" = none
  mx : mg "max" = none
  mn : mg "min" = none
  isi : mg "isinstance" = none
def mixedZ (n : Int) : Int := (n * 48271 + 12345) % 2147483647
def spMixed : Sp := fun vs H Q _ => ∃ n : Int, vs = [.int n] ∧ Q (.int (mixedZ n)) H
def Wd (x : Str) : Prop := 1 ≤ x.length ∧ x.length ≤ 20 ∧ allGood x
def spMenu (K : PySem.W.Frag) : Sp := fun vs H Q _ => ∃ (a : Addr) (ns : List Int), vs = [.ref a] ∧ SqL K H a (ns.map V.int) ∧ ns.length ≤ 63 ∧ ∀ (ws : List Str) r H', Same H H' → H' r = some (.lst (ws.map V.str)) → H r = none → ws.length = 10 → (∀ x ∈ ws, Wd x) → Q (.ref r) H'
def spRow (K : PySem.W.Frag) : Sp := fun vs H Q _ => ∃ (c : Int) (m : Addr) (ws : List Str) (k : Int), vs = [.int c, .ref m, .int k] ∧ SqL K H m (ws.map V.str) ∧ ws.length = 10 ∧ 0 ≤ k ∧ k ≤ 1000 ∧ ∀ (zs : List Str) r H', Same H H' → H' r = some (.tup (zs.map V.str)) → zs.length = k.toNat → (∀ z ∈ zs, z ∈ ws) → Q (.ref r) H'
theorem keep_upd {H H' : Hp} {p : Addr} (hp : H p = none) (g : Same H H') (o : HO) : Same H (upd H' p o) := fun b u e => by rw [upd_ne (ne_of_none e hp)]; exact g b u e
theorem at_of {α : Type} {xs : List α} {k : Int} (h0 : 0 ≤ k) (h : k < (xs.length : Int)) : ∃ v, atI xs k = some v ∧ xs[k.toNat]? = some v := by
  have hk : k.toNat < xs.length := by omega
  have ek : k = ((k.toNat : Nat) : Int) := by omega
  have q := atI_nat (List.getElem?_eq_getElem hk)
  rw [← ek] at q
  exact ⟨_, q, List.getElem?_eq_getElem hk⟩
theorem at_str {ws : List Str} {k : Int} (h0 : 0 ≤ k) (h : k < (ws.length : Int)) : ∃ z, z ∈ ws ∧ atI (ws.map V.str) k = some (.str z) := by
  obtain ⟨v, h1, h2⟩ := at_of (xs := ws.map V.str) h0 (by rw [List.length_map]; exact h)
  rw [List.getElem?_map] at h2
  cases hz : ws[k.toNat]? with
  | none => rw [hz] at h2; cases h2
  | some z =>
    rw [hz] at h2
    cases h2
    exact ⟨z, List.mem_of_getElem? hz, h1⟩
theorem at_int {is : List Int} {k : Int} (h0 : 0 ≤ k) (h : k < (is.length : Int)) : ∃ z, z ∈ is ∧ atI (is.map V.int) k = some (.int z) := by
  obtain ⟨v, h1, h2⟩ := at_of (xs := is.map V.int) h0 (by rw [List.length_map]; exact h)
  rw [List.getElem?_map] at h2
  cases hz : is[k.toNat]? with
  | none => rw [hz] at h2; cases h2
  | some z =>
    rw [hz] at h2
    cases h2
    exact ⟨z, List.mem_of_getElem? hz, h1⟩
section
variable {P : Program} {w : World} {K : PySem.W.Frag} {mg : Str → Option Value} {base : Heap} {f : Addr} {fd : FuncData}
theorem scMixed : FnScope ["_law_number_here"] ["_law_number_here"] (defScope s_l_mixed) := ⟨rfl, rfl, rfl, by decide +kernel, rfl, by decide +kernel, by decide +kernel⟩
theorem ok_mixed (F : Fun K "_law_mixed" "_law_mixed" s_l_mixed f fd) : FnOk P w K mg base CX0 1 f fd ["_law_number_here"] spMixed := by
  refine F.ok scMixed (fun vs H Q E h => ?_) (fun cdv A outer s H vs Q E hr h => ?_)
  · obtain ⟨c, rfl, _⟩ := h
    rfl
  obtain ⟨c, rfl, q⟩ := h
  refine ⟨_, pss_one (ps_ret (pe_op op_mod (pe_op op_add (pe_op op_mul (pv 0) pe_int) pe_int) pe_int)), ?_⟩
  exact ⟨_, rfl, _, _, rfl, rfl, .inr ⟨by decide, by decide⟩, _, _, rfl, rfl, _, _, rfl, rfl, (by show (0 : Int) < _; decide), q⟩
theorem scMenu : FnScope ["_law_script", "_law_some", "_law_cell_here", "_law_size", "_law_at", "_law_number_here", "_law_signs", "_law_k", "_law_menu_here", "_law_word", "_law_j", "_law_sign"] ["_law_script"] (defScope s_l_menu) := ⟨rfl, rfl, rfl, by decide +kernel, rfl, by decide +kernel, by decide +kernel⟩
set_option maxHeartbeats 8000000 in
theorem ok_menu (F : Fun K "_law_menu" "_law_menu" s_l_menu f fd) (T : Nm mg) (GC : Def P w K mg base CX0 1 "_law_cell" ["_law_script", "_law_k"] (spCell K)) (GM : Def P w K mg base CX0 1 "_law_mixed" ["_law_number_here"] spMixed) : FnOk P w K mg base CX0 2 f fd ["_law_script"] (spMenu K) := by
  refine F.ok scMenu (fun vs H Q E h => ?_) (fun cdv A outer s H vs Q E hr h => ?_)
  · obtain ⟨a, ns, rfl, _⟩ := h
    rfl
  obtain ⟨a, ns, rfl, hS, h63, q⟩ := h
  refine ⟨_, pss_cons (ps_set (i := 1) scMenu.nd rfl (Or.inl rfl) pe_str)
    (pss_cons (ps_set (i := 2) scMenu.nd rfl (Or.inl rfl) (pe_def GC hr (pa_cons (pv 0) (pa_cons pe_int pa_nil))))
    (pss_cons (ps_set (i := 3) scMenu.nd rfl (Or.inl rfl) (pe_op op_add pe_int (pe_op op_mod (pv 2) pe_int)))
    (pss_cons (ps_set (i := 4) scMenu.nd rfl (Or.inl rfl) (pe_op op_mod (pe_op op_fdiv (pv 2) pe_int) (pv 3)))
    (pss_cons (ps_set (i := 5) scMenu.nd rfl (Or.inl rfl) (pe_op op_mod (pv 2) pe_int))
    (pss_cons (ps_set (i := 6) scMenu.nd rfl (Or.inl rfl) (pe_lst pa_nil))
    (pss_cons (ps_for PassesOwn.never rfl (pi_range1 rfl T.range (pa_cons (pv 3) pa_nil)) (pg_name (i := 7) scMenu.nd rfl (Or.inl rfl))
      (pss_cons (ps_set (i := 5) scMenu.nd rfl (Or.inl rfl) (pe_def GM hr (pa_cons (pv 5) pa_nil)))
      (pss_one (ps_expr (pe_bm PySem.F.plainAttrs_list PySem.F.slot_list_append PySem.F.type_list_append mt_append (pv 6) (pa_cons (pe_op op_mod (pv 5) pe_int) pa_nil))))))
    (pss_cons (ps_set (i := 8) scMenu.nd rfl (Or.inl rfl) (pe_lst pa_nil))
    (pss_cons (ps_for PassesOwn.never rfl (pi_range1 rfl T.range (pa_cons pe_int pa_nil)) (pg_name (i := 7) scMenu.nd rfl (Or.inl rfl))
      (pss_cons (ps_set (i := 9) scMenu.nd rfl (Or.inl rfl) pe_str)
      (pss_cons (ps_for PassesOwn.never rfl (pi_range1 rfl T.range (pa_cons (pv 3) pa_nil)) (pg_name (i := 10) scMenu.nd rfl (Or.inl rfl))
        (pss_cons (ps_set (i := 11) scMenu.nd rfl (Or.inl rfl) (pe_op op_mod (pe_op op_add (pe_ix ix_list (pv 6) (pv 10) (fun _ _ => rfl)) (pe_op op_mul (pe_op op_mul pe_int (pv 7)) (pe_callTy call_int1 rfl T.int PyProof.Rows.boot_int (pa_cons (pe_cmpR op_eq (pv 10) (pv 4) (nomark _)) pa_nil)))) pe_int))
        (pss_cons (ps_if (PW.pt (pw_and (pt_cmpR op_eq (pv 10) (pv 4) (nomark _)) (pw_and1 (pt_cmpR op_eq (pe_op op_mod (pv 2) pe_int) pe_int (nomark _)))))
          (pss_one (ps_set (i := 11) scMenu.nd rfl (Or.inl rfl) (pe_op op_add (pe_op op_mod (pe_op op_add (pe_ix ix_list (pv 6) (pv 10) (fun _ _ => rfl)) (pe_op op_fdiv (pv 7) pe_int)) pe_int) (pe_op op_mul (pe_op op_mod (pv 7) pe_int) pe_int)))) pss_nil)
        (pss_one (ps_set (i := 9) scMenu.nd rfl (Or.inl rfl) (pe_op op_add_str (pv 9) (pe_ix ix_str (pv 1) (pv 11) (fun _ _ => rfl))))))))
      (pss_one (ps_expr (pe_bm PySem.F.plainAttrs_list PySem.F.slot_list_append PySem.F.type_list_append mt_append (pv 8) (pa_cons (pv 9) pa_nil)))))))
    (pss_one (ps_ret (pe_op op_cat (pv 8) (pe_lst (pa_cons (pe_op op_add_str (pe_ix ix_list (pv 8) pe_int (fun _ _ => rfl)) (pe_ix ix_str (pv 1) (pe_ix ix_list (pv 6) pe_int (fun _ _ => rfl)) (fun _ _ => rfl)))
      (pa_cons (pe_op op_add_str (pe_ix ix_list (pv 8) pe_int (fun _ _ => rfl)) (pe_ix ix_str (pv 1) (pe_op op_mod (pe_op op_fdiv (pv 5) pe_int) pe_int) (fun _ _ => rfl))) pa_nil)))))))))))))), ?_⟩
  have hb := big
  have hz : W62.length ≤ sizeLine := by decide +kernel
  refine ⟨_, rfl, a, ns, 0, rfl, hS, h63, by decide, by decide, ?_⟩
  generalize cellZ ns 0 = c
  have m0 : 0 ≤ c % 19 := Int.emod_nonneg _ (by decide)
  have m1 : c % 19 < 19 := Int.emod_lt_of_pos _ (by decide)
  refine ⟨_, rfl, _, _, rfl, rfl, (by show (0 : Int) < _; decide), _, _, rfl, rfl, ?_⟩
  dsimp only
  generalize hn : 1 + c % 19 = n
  have n0 : 1 ≤ n := by omega
  have n1 : n ≤ 19 := by omega
  clear m0 m1 hn
  refine ⟨_, rfl, _, _, rfl, rfl, ⟨by decide, by decide⟩, _, rfl, _, _, rfl, rfl, (by show (0 : Int) < n; omega), ?_⟩
  dsimp only
  generalize c / 19 % n = at'
  refine ⟨_, rfl, _, _, rfl, rfl, (by show (0 : Int) < _; decide), ?_⟩
  dsimp only
  generalize c % 2147483647 = v0
  refine ⟨(by show 0 ≤ sizeLine; decide), fun p hp => ?_⟩
  have k0 := same_new hp (.lst [])
  refine ⟨_, rfl, n, rfl, by omega, by omega, ?_⟩
  refine for_range (lo := 0) (n := n.toNat) (fun i σ' H' => Same H H' ∧ ∃ (is : List Int) (x : Int) (u : Option V), σ' = [some (.ref a), some (.str W62), some (.int c), some (.int n), some (.int at'), some (.int x), some (.ref p), u, none, none, none, none] ∧ H' p = some (.lst (is.map V.int)) ∧ is.length = i ∧ ∀ z ∈ is, 0 ≤ z ∧ z < 62) ?_ ?_ ?_
  · exact ⟨k0, [], v0, none, rfl, upd_same, rfl, fun _ h => nomatch h⟩
  · rintro i σ' H' hi ⟨g, is, x, u, rfl, hl, hil, his⟩
    refine ⟨_, rfl, x, rfl, ?_⟩
    refine ⟨_, rfl, .inl ⟨rfl, _, SqL.of hl⟩, _, rfl, _, _, rfl, rfl, (by show (0 : Int) < _; decide), p, _, _, rfl, rfl, hl, by rw [List.length_map, hil]; omega, ?_⟩
    refine ⟨keep_upd hp g _, is ++ [mixedZ x % 62], _, _, rfl, by rw [upd_same, List.map_append] <;> rfl, by rw [List.length_append, hil] <;> rfl, fun z hzm => ?_⟩
    rcases List.mem_append.mp hzm with k | k
    · exact his z k
    · rw [List.mem_singleton.mp k]
      exact ⟨Int.emod_nonneg _ (by decide), Int.emod_lt_of_pos _ (by decide)⟩
  rintro σ' H1 ⟨g1, is, x, u, rfl, hl, hil, his⟩
  refine ⟨(by show 0 ≤ sizeLine; decide), fun r hr1 => ?_⟩
  have hrp : r ≠ p := (ne_of_none hl hr1).symm
  have hrH : H r = none := g1.free hr1
  refine ⟨8, rfl, by decide, by decide, ?_⟩
  refine for_range (lo := 0) (n := 8) (fun i σ' H' => Same H H' ∧ ∃ (ws : List Str) (u7 u9 u10 u11 : Option V), σ' = [some (.ref a), some (.str W62), some (.int c), some (.int n), some (.int at'), some (.int x), some (.ref p), u7, some (.ref r), u9, u10, u11] ∧ H' p = some (.lst (is.map V.int)) ∧ H' r = some (.lst (ws.map V.str)) ∧ ws.length = i ∧ ∀ z ∈ ws, z.length = n.toNat ∧ allGood z) ?_ ?_ ?_
  · exact ⟨g1.trans (same_new hr1 _), [], _, _, _, _, rfl, by rw [upd_ne hrp.symm]; exact hl, upd_same, rfl, fun _ h => nomatch h⟩
  · rintro i σ' H' hi ⟨g, ws, u7, u9, u10, u11, rfl, hlp, hlr, hwl, hws⟩
    refine ⟨_, rfl, n, rfl, by omega, by omega, ?_⟩
    refine for_range (lo := 0) (n := n.toNat) (fun j σ2 H2 => H2 = H' ∧ ∃ (y : Str) (u10 u11 : Option V), σ2 = [some (.ref a), some (.str W62), some (.int c), some (.int n), some (.int at'), some (.int x), some (.ref p), some (.int (0 + (i : Int))), some (.ref r), some (.str y), u10, u11] ∧ y.length = j ∧ allGood y) ?_ ?_ ?_
    · exact ⟨rfl, ("" : Str), _, _, rfl, by decide +kernel, by unfold allGood; decide +kernel⟩
    · rintro j σ2 H2 hj ⟨rfl, y, v10, v11, rfl, hy, gy⟩
      obtain ⟨z, hzm, hz1⟩ := at_int (is := is) (k := 0 + (j : Int)) (by omega) (by omega)
      obtain ⟨z0, z1⟩ := his z hzm
      have fin : ∀ (sg : Int), 0 ≤ sg → sg < 62 → ∀ (t : TS) (N : St → Hp → Prop) (R : Ends), R.nx = N → (∀ d : Nat, good d = true → N [some (.ref a), some (.str W62), some (.int c), some (.int n), some (.int at'), some (.int x), some (.ref p), some (.int (0 + (i : Int))), some (.ref r), some (.str (y ++ (⟨#[d]⟩ : Str))), some (.int (0 + (j : Int))), some (.int sg)] H2) →
          t = tAsg (tOp (fun x y H Q => ∃ i j, x = .str i ∧ y = .str j ∧ i.length + j.length ≤ sizeLine ∧ Q (.str (i ++ j)) H) (tVar 9) (tOp rIxS (tVar 1) (tVar 11))) (gName 9) → t R [some (.ref a), some (.str W62), some (.int c), some (.int n), some (.int at'), some (.int x), some (.ref p), some (.int (0 + (i : Int))), some (.ref r), some (.str y), some (.int (0 + (j : Int))), some (.int sg)] H2 := by
        rintro sg s0 s1 t N R rfl hN rfl
        obtain ⟨d, hd, gd⟩ := w62_at s0 s1
        exact ⟨_, rfl, _, rfl, _, rfl, _, _, _, rfl, rfl, hz, hd, _, _, rfl, rfl, (by show y.length + 1 ≤ sizeLine; omega), hN d gd⟩
      have inv : ∀ (sg : Int) (d : Nat), good d = true → _ := fun sg d gd => (⟨rfl, y ++ (⟨#[d]⟩ : Str), some (.int (0 + (j : Int))), some (.int sg), rfl, by rw [len_app, hy] <;> rfl, gy.app (by unfold allGood; simp [cs, gd])⟩ : H2 = H2 ∧ ∃ (y' : Str) (u10 u11 : Option V), [some (V.ref a), some (.str W62), some (.int c), some (.int n), some (.int at'), some (.int x), some (.ref p), some (.int (0 + (i : Int))), some (.ref r), some (.str (y ++ (⟨#[d]⟩ : Str))), some (.int (0 + (j : Int))), some (.int sg)] = [some (.ref a), some (.str W62), some (.int c), some (.int n), some (.int at'), some (.int x), some (.ref p), some (.int (0 + (i : Int))), some (.ref r), some (.str y'), u10, u11] ∧ y'.length = j + 1 ∧ allGood y')
      refine ⟨_, rfl, _, rfl, p, _, _, _, rfl, rfl, SqL.of hlp, hz1, _, rfl, _, _, rfl, rfl, .inl ⟨by decide, by decide⟩, _, rfl, _, rfl, rfl, .inr ⟨_, rfl, _, _, rfl, rfl, .inl ⟨by omega, by omega⟩, _, _, rfl, rfl, _, _, rfl, rfl, (by show (0 : Int) < _; decide), ?_⟩⟩
      have s0 : ∀ q : Int, 0 ≤ q % 62 := fun q => Int.emod_nonneg _ (by decide)
      have s1 : ∀ q : Int, q % 62 < 62 := fun q => Int.emod_lt_of_pos _ (by decide)
      refine ⟨_, rfl, _, rfl, rfl, _, rfl, ?_⟩
      refine ite2 (fun d1 => ?_) (fun d1 => ?_)
      · refine ⟨_, rfl, _, _, rfl, rfl, (by show (0 : Int) < _; decide), rfl, _, rfl, ?_⟩
        refine ite2 (fun d2 => ?_) (fun d2 => ?_)
        · refine ⟨_, rfl, _, rfl, p, _, _, _, rfl, rfl, SqL.of hlp, hz1, _, rfl, _, _, rfl, rfl, ⟨by decide, by decide⟩, _, _, rfl, rfl, _, _, rfl, rfl, (by show (0 : Int) < _; decide), _, rfl, _, _, rfl, rfl, (by show (0 : Int) < _; decide), _, _, rfl, rfl, .inr ⟨by decide, by decide⟩, _, _, rfl, rfl, ?_⟩
          have r0 : 0 ≤ (z + (0 + (i : Int)) / 2) % 26 := Int.emod_nonneg _ (by decide)
          have r1 : (z + (0 + (i : Int)) / 2) % 26 < 26 := Int.emod_lt_of_pos _ (by decide)
          have r2 : 0 ≤ (0 + (i : Int)) % 2 := Int.emod_nonneg _ (by decide)
          have r3 : (0 + (i : Int)) % 2 < 2 := Int.emod_lt_of_pos _ (by decide)
          exact fin _ (by omega) (by omega) (tAsg _ _) _ _ rfl (fun d gd => inv _ d gd) rfl
        · exact fin _ (s0 _) (s1 _) (tAsg _ _) _ _ rfl (fun d gd => inv _ d gd) rfl
      · exact fin _ (s0 _) (s1 _) (tAsg _ _) _ _ rfl (fun d gd => inv _ d gd) rfl
    · rintro σ2 H2 ⟨rfl, y, v10, v11, rfl, hy, gy⟩
      refine ⟨_, rfl, .inl ⟨rfl, _, SqL.of hlr⟩, _, rfl, r, _, _, rfl, rfl, hlr, by rw [List.length_map, hwl]; omega, ?_⟩
      refine ⟨keep_upd hrH g _, ws ++ [y], _, _, _, _, rfl, by rw [upd_ne hrp.symm]; exact hlp, by rw [upd_same, List.map_append] <;> rfl, by rw [List.length_append, hwl] <;> rfl, fun z hzm => ?_⟩
      rcases List.mem_append.mp hzm with k | k
      · exact hws z k
      · rw [List.mem_singleton.mp k]
        exact ⟨hy, gy⟩
  · rintro σ' H2 ⟨g, ws, u7, u9, u10, u11, rfl, hlp, hlr, hwl, hws⟩
    obtain ⟨y0, m0, e0⟩ := at_str (ws := ws) (k := 0) (by decide) (by omega)
    obtain ⟨y1, m1, e1⟩ := at_str (ws := ws) (k := 1) (by decide) (by omega)
    obtain ⟨l0, q0⟩ := hws y0 m0
    obtain ⟨l1, q1⟩ := hws y1 m1
    obtain ⟨s0, sm0, se0⟩ := at_int (is := is) (k := 0) (by decide) (by omega)
    obtain ⟨b0, b1⟩ := his s0 sm0
    obtain ⟨d0, hd0, gd0⟩ := w62_at b0 b1
    obtain ⟨d1, hd1, gd1⟩ := w62_at (i := x / 62 % 62) (Int.emod_nonneg _ (by decide)) (Int.emod_lt_of_pos _ (by decide))
    refine ⟨_, rfl, _, rfl, r, _, _, _, rfl, rfl, SqL.of hlr, e0, _, rfl, _, rfl, p, _, _, _, rfl, rfl, SqL.of hlp, se0, _, _, _, rfl, rfl, hz, hd0, _, _, rfl, rfl, (by show y0.length + 1 ≤ sizeLine; omega), ?_⟩
    refine ⟨_, rfl, r, _, _, _, rfl, rfl, SqL.of hlr, e1, _, rfl, _, rfl, _, _, rfl, rfl, ⟨by decide, by decide⟩, _, _, rfl, rfl, (by show (0 : Int) < _; decide), _, _, _, rfl, rfl, hz, hd1, _, _, rfl, rfl, (by show y1.length + 1 ≤ sizeLine; omega), ?_⟩
    refine ⟨(by show 2 ≤ sizeLine; decide), fun p3 hp3 => ?_⟩
    refine ⟨r, p3, _, _, rfl, rfl, by rw [upd_ne (ne_of_none hlr hp3)]; exact hlr, upd_same, by rw [List.length_map, hwl]; show 8 + 2 ≤ sizeLine; decide, fun p4 hp4 => ?_⟩
    have g4 : Same H (upd (upd H2 p3 (.lst [.str (y0 ++ (⟨#[d0]⟩ : Str)), .str (y1 ++ (⟨#[d1]⟩ : Str))])) p4 (.lst (ws.map V.str ++ [.str (y0 ++ (⟨#[d0]⟩ : Str)), .str (y1 ++ (⟨#[d1]⟩ : Str))]))) := (g.trans (same_new hp3 _)).trans (same_new hp4 _)
    refine q (ws ++ [y0 ++ (⟨#[d0]⟩ : Str), y1 ++ (⟨#[d1]⟩ : Str)]) p4 _ g4 (by rw [upd_same, List.map_append] <;> rfl) ((g.trans (same_new hp3 _)).free hp4) (by rw [List.length_append, hwl] <;> rfl) fun z hzm => ?_
    rcases List.mem_append.mp hzm with k | k
    · obtain ⟨k1, k2⟩ := hws z k
      exact ⟨by omega, by omega, k2⟩
    · rcases List.mem_cons.mp k with k | k
      · rw [k]
        exact ⟨by rw [len_app, l0]; show 1 ≤ _ + 1; omega, by rw [len_app, l0]; show _ + 1 ≤ 20; omega, q0.app (by unfold allGood; simp [cs, gd0])⟩
      · rw [List.mem_singleton.mp k]
        exact ⟨by rw [len_app, l1]; show 1 ≤ _ + 1; omega, by rw [len_app, l1]; show _ + 1 ≤ 20; omega, q1.app (by unfold allGood; simp [cs, gd1])⟩
end
end D
namespace D
open PySem L2
def numZ (ns : List Int) (k : Int) : Int := (if cellZ ns 1 / 42 % 2 = 1 then 1 + cellZ ns 2 % 10 ^ 59 else 1 + cellZ ns 2 % 9) + k * (1 + cellZ ns 1 % 42) % 43 * (1 + cellZ ns 1 / 84 % 1000)
def spNum (K : PySem.W.Frag) : Sp := fun vs H Q _ => ∃ (a : Addr) (ns : List Int) (k : Int), vs = [.ref a, .int k] ∧ SqL K H a (ns.map V.int) ∧ ns.length ≤ 63 ∧ 0 ≤ k ∧ k ≤ 1000 ∧ Q (.int (numZ ns k)) H
def Rw (ws : List Str) : Prop := 1 ≤ ws.length ∧ ws.length ≤ 200 ∧ ∀ x ∈ ws, Wd x
def formW (last : Str) (b : Str × Str) : Str := ⟨((cs last).take (last.length - b.1.length) ++ cs b.2).toArray⟩
structure BOk (last : Str) (bs : List (Str × Str)) : Prop where
  len : bs.length ≤ 5
  fit : ∀ b ∈ bs, b.1.length ≤ last.length ∧ (cs last).drop (last.length - b.1.length) = cs b.1 ∧ b.2.length ≤ 20 ∧ allGood b.1 ∧ allGood b.2 ∧ 1 ≤ (formW last b).length ∧ (formW last b).length ≤ 20
  nd : (last :: bs.map (formW last)).Nodup
structure TlOk (sc : Str) (ph : List Str) (bs : List (Str × Str)) (ms : List Str) : Prop where
  hsc : sc ∈ (["all", "part", "here", "else"] : List Str)
  hlen : ph.length ≤ 4
  hph : ∀ x ∈ ph, Wd x
  hbs : ∃ ws last, ph = ws ++ [last] ∧ BOk last bs
  hms : Rw ms
def Leaf (n : Int) (t : Th) : Prop := (∃ ws, t = .say n ws ∧ Rw ws) ∨ ∃ sc ph bs ms, t = .tell n sc ph bs ms ∧ TlOk sc ph bs ms
def spThing (K : PySem.W.Frag) : Sp := fun vs H Q _ => ∃ (c n : Int) (m : Addr) (ws : List Str) (k : Int), vs = [.int c, .int n, .ref m, .int k] ∧ SqL K H m (ws.map V.str) ∧ ws.length = 10 ∧ (∀ x ∈ ws, Wd x) ∧ 1 ≤ k ∧ k ≤ 200 ∧ ∀ (t : Th) v H', Same H H' → thR H' t v → Leaf n t → Q v H'
section
variable {P : Program} {w : World} {K : PySem.W.Frag} {mg : Str → Option Value} {base : Heap} {f : Addr} {fd : FuncData}
theorem scRow : FnScope ["_law_cell_here", "_law_menu_here", "_law_many", "_law_number_here", "_law_words", "_law_k"] ["_law_cell_here", "_law_menu_here", "_law_many"] (defScope s_l_row) := ⟨rfl, rfl, rfl, by decide +kernel, rfl, by decide +kernel, by decide +kernel⟩
set_option maxHeartbeats 4000000 in
theorem ok_row (F : Fun K "_law_row" "_law_row" s_l_row f fd) (T : Nm mg) (GM : Def P w K mg base CX0 1 "_law_mixed" ["_law_number_here"] spMixed) : FnOk P w K mg base CX0 2 f fd ["_law_cell_here", "_law_menu_here", "_law_many"] (spRow K) := by
  refine F.ok scRow (fun vs H Q E h => ?_) (fun cdv A outer s H vs Q E hr h => ?_)
  · obtain ⟨c, m, ws, k, rfl, _⟩ := h
    rfl
  obtain ⟨c, m, ws, k, rfl, hS, hw, k0, k1, q⟩ := h
  refine ⟨_, pss_cons (ps_set (i := 3) scRow.nd rfl (Or.inl rfl) (pe_def GM hr (pa_cons (pv 0) pa_nil)))
    (pss_cons (ps_set (i := 4) scRow.nd rfl (Or.inl rfl) (pe_lst pa_nil))
    (pss_cons (ps_for PassesOwn.never rfl (pi_range1 rfl T.range (pa_cons (pv 2) pa_nil)) (pg_name (i := 5) scRow.nd rfl (Or.inl rfl))
      (pss_cons (ps_set (i := 3) scRow.nd rfl (Or.inl rfl) (pe_def GM hr (pa_cons (pv 3) pa_nil)))
      (pss_one (ps_expr (pe_bm PySem.F.plainAttrs_list PySem.F.slot_list_append PySem.F.type_list_append mt_append (pv 4) (pa_cons (pe_ix ix_list (pv 1) (pe_op op_mod (pv 3) pe_int) (fun _ _ => rfl)) pa_nil))))))
    (pss_one (ps_ret (pe_callTy call_tuple_of rfl T.tuple PyProof.Rows.boot_tuple (pa_cons (pv 4) pa_nil)))))), ?_⟩
  have hb := big
  refine ⟨_, rfl, c, rfl, ?_⟩
  refine ⟨(by show 0 ≤ sizeLine; decide), fun p hp => ?_⟩
  refine ⟨_, rfl, k, rfl, by omega, by omega, ?_⟩
  refine for_range (lo := 0) (n := k.toNat) (fun i σ' H' => Same H H' ∧ ∃ (zs : List Str) (x : Int) (u : Option V), σ' = [some (.int c), some (.ref m), some (.int k), some (.int x), some (.ref p), u] ∧ H' p = some (.lst (zs.map V.str)) ∧ zs.length = i ∧ ∀ z ∈ zs, z ∈ ws) ?_ ?_ ?_
  · exact ⟨same_new hp _, [], _, none, rfl, upd_same, rfl, fun _ h => nomatch h⟩
  · rintro i σ' H' hi ⟨g, zs, x, u, rfl, hl, hzl, hz⟩
    obtain ⟨y, hy, ey⟩ := at_str (ws := ws) (k := mixedZ x % 10) (Int.emod_nonneg _ (by decide)) (by rw [hw]; exact Int.emod_lt_of_pos _ (by decide))
    refine ⟨_, rfl, x, rfl, ?_⟩
    refine ⟨_, rfl, .inl ⟨rfl, _, SqL.of hl⟩, _, rfl, _, rfl, _, _, rfl, rfl, (by show (0 : Int) < _; decide), m, _, _, _, rfl, rfl, g.seq hS, ey, p, _, _, rfl, rfl, hl, by rw [List.length_map, hzl]; omega, ?_⟩
    refine ⟨keep_upd hp g _, zs ++ [y], _, _, rfl, by rw [upd_same, List.map_append] <;> rfl, by rw [List.length_append, hzl] <;> rfl, fun z hzm => ?_⟩
    rcases List.mem_append.mp hzm with j | j
    · exact hz z j
    · rw [List.mem_singleton.mp j]; exact hy
  · rintro σ' H' ⟨g, zs, x, u, rfl, hl, hzl, hz⟩
    refine ⟨_, rfl, p, _, rfl, .inl ⟨SqL.of hl, fun r hr1 => ?_⟩⟩
    exact q zs r _ (g.trans (same_new hr1 _)) upd_same hzl hz
theorem scNum : FnScope ["_law_script", "_law_k", "_law_cell_here", "_law_base"] ["_law_script", "_law_k"] (defScope s_l_number) := ⟨rfl, rfl, rfl, by decide +kernel, rfl, by decide +kernel, by decide +kernel⟩
set_option maxHeartbeats 4000000 in
theorem ok_num (F : Fun K "_law_number" "_law_number" s_l_number f fd) (GC : Def P w K mg base CX0 1 "_law_cell" ["_law_script", "_law_k"] (spCell K)) : FnOk P w K mg base CX0 2 f fd ["_law_script", "_law_k"] (spNum K) := by
  refine F.ok scNum (fun vs H Q E h => ?_) (fun cdv A outer s H vs Q E hr h => ?_)
  · obtain ⟨a, ns, k, rfl, _⟩ := h
    rfl
  obtain ⟨a, ns, k, rfl, hS, h63, k0, k1, q⟩ := h
  refine ⟨_, pss_cons (ps_set (i := 2) scNum.nd rfl (Or.inl rfl) (pe_def GC hr (pa_cons (pv 0) (pa_cons pe_int pa_nil))))
    (pss_cons (ps_set (i := 3) scNum.nd rfl (Or.inl rfl) (pe_op op_add pe_int (pe_op op_mod (pe_def GC hr (pa_cons (pv 0) (pa_cons pe_int pa_nil))) pe_int)))
    (pss_cons (ps_if (pt_cmpR op_eq (pe_op op_mod (pe_op op_fdiv (pv 2) pe_int) pe_int) pe_int (nomark _)) (pss_one (ps_set (i := 3) scNum.nd rfl (Or.inl rfl) (pe_op op_add pe_int (pe_op op_mod (pe_def GC hr (pa_cons (pv 0) (pa_cons pe_int pa_nil))) (pe_op op_pow pe_int pe_int))))) pss_nil)
    (pss_one (ps_ret (pe_op op_add (pv 3) (pe_op op_mul (pe_op op_mod (pe_op op_mul (pv 1) (pe_op op_add pe_int (pe_op op_mod (pv 2) pe_int))) pe_int) (pe_op op_add pe_int (pe_op op_mod (pe_op op_fdiv (pv 2) pe_int) pe_int)))))))), ?_⟩
  have r0 : ∀ x : Int, 0 ≤ x % 43 := fun x => Int.emod_nonneg _ (by decide)
  have r1 : ∀ x : Int, x % 43 < 43 := fun x => Int.emod_lt_of_pos _ (by decide)
  have fin : ∀ b : Int, b = (if cellZ ns 1 / 42 % 2 = 1 then 1 + cellZ ns 2 % 10 ^ 59 else 1 + cellZ ns 2 % 9) → ∀ t : TS, t = tRet (tOp (rI0 fun i j => .int (i + j)) (tVar 3) (tOp (rI CMul fun i j => .int (i * j)) (tOp (rI (fun _ j => 0 < j) fun i j => .int (i % j)) (tOp (rI CMul fun i j => .int (i * j)) (tVar 1) (tOp (rI0 fun i j => .int (i + j)) (tC (.int 1)) (tOp (rI (fun _ j => 0 < j) fun i j => .int (i % j)) (tVar 2) (tC (.int 42))))) (tC (.int 43))) (tOp (rI0 fun i j => .int (i + j)) (tC (.int 1)) (tOp (rI (fun _ j => 0 < j) fun i j => .int (i % j)) (tOp (rI CDiv fun i j => .int (i / j)) (tVar 2) (tC (.int 84))) (tC (.int 1000)))))) →
      t { nx := fun _ H' => Q .non H', rt := Q } [some (.ref a), some (.int k), some (.int (cellZ ns 1)), some (.int b)] H := by
    rintro b hb t rfl
    have e : numZ ns k = b + k * (1 + cellZ ns 1 % 42) % 43 * (1 + cellZ ns 1 / 84 % 1000) := by rw [hb] <;> rfl
    rw [e] at q
    have b0 := r0 (k * (1 + cellZ ns 1 % 42))
    have b1 := r1 (k * (1 + cellZ ns 1 % 42))
    exact ⟨_, rfl, _, rfl, _, rfl, _, _, rfl, rfl, (by show (0 : Int) < _; decide), _, _, rfl, rfl, _, _, rfl, rfl, .inl ⟨by omega, by omega⟩, _, _, rfl, rfl, (by show (0 : Int) < _; decide), _, rfl, _, _, rfl, rfl, ⟨by decide, by decide⟩, _, _, rfl, rfl, (by show (0 : Int) < _; decide), _, _, rfl, rfl, _, _, rfl, rfl, .inl ⟨by omega, by omega⟩, _, _, rfl, rfl, q⟩
  refine ⟨_, rfl, a, ns, 1, rfl, hS, h63, by decide, by decide, ?_⟩
  refine ⟨_, rfl, a, ns, 2, rfl, hS, h63, by decide, by decide, _, _, rfl, rfl, (by show (0 : Int) < _; decide), _, _, rfl, rfl, ?_⟩
  refine ⟨_, rfl, _, _, rfl, rfl, ⟨by decide, by decide⟩, _, _, rfl, rfl, (by show (0 : Int) < _; decide), rfl, _, rfl, ?_⟩
  refine ite2 (fun d => ?_) (fun d => ?_)
  · have d' : cellZ ns 1 / 42 % 2 = 1 := V.int.inj (of_decide_eq_true d)
    refine ⟨_, rfl, a, ns, 2, rfl, hS, h63, by decide, by decide, _, _, rfl, rfl, ⟨by decide, by decide, by decide⟩, _, _, rfl, rfl, (by show (0 : Int) < 10 ^ (59 : Int).toNat; decide), _, _, rfl, rfl, ?_⟩
    exact fin _ (by rw [if_pos d'] <;> rfl) (tRet _) rfl
  · have d' : ¬ cellZ ns 1 / 42 % 2 = 1 := fun z => d (decide_eq_true (congrArg V.int z))
    exact fin _ (by rw [if_neg d']) (tRet _) rfl
end
end D
namespace D
open PySem L2
def spPlain : Sp := fun vs H Q _ => ∃ (m : Addr) (ws : List Str) (c : Int), vs = [.ref m, .int c] ∧ H m = some (.lst (ws.map V.str)) ∧ ws.length = 10 ∧ (∀ x ∈ ws, Wd x) ∧ ∀ (zs : List Str) H', H' m = some (.lst (zs.map V.str)) → (∀ b o, b ≠ m → H b = some o → H' b = some o) → zs.length = 10 → (∀ x ∈ zs, Wd x) → Q (.ref m) H'
abbrev ten : List Str := ["say", "tell", "part", "end", "all", "here", "else", "none", "text", "undo"]
theorem ten_wd : ∀ x ∈ ten, Wd x := by
  intro x hx
  simp only [List.mem_cons, List.not_mem_nil, or_false] at hx
  rcases hx with rfl | rfl | rfl | rfl | rfl | rfl | rfl | rfl | rfl | rfl <;> exact ⟨by decide +kernel, by decide +kernel, by unfold allGood; decide +kernel⟩
section
variable {P : Program} {w : World} {K : PySem.W.Frag} {mg : Str → Option Value} {base : Heap} {f : Addr} {fd : FuncData}
theorem scPlain : FnScope ["_law_menu_here", "_law_cell_here", "_law_some", "_law_k"] ["_law_menu_here", "_law_cell_here"] (defScope s_l_plain_words) := ⟨rfl, rfl, rfl, by decide +kernel, rfl, by decide +kernel, by decide +kernel⟩
set_option maxHeartbeats 4000000 in
theorem ok_plain (F : Fun K "_law_plain_words" "_law_plain_words" s_l_plain_words f fd) (T : Nm mg) : FnOk P w K mg base CX0 1 f fd ["_law_menu_here", "_law_cell_here"] spPlain := by
  refine F.ok scPlain (fun vs H Q E h => ?_) (fun cdv A outer s H vs Q E hr h => ?_)
  · obtain ⟨m, ws, c, rfl, _⟩ := h
    rfl
  obtain ⟨m, ws, c, rfl, hm, hl, hw, q⟩ := h
  refine ⟨_, pss_cons (ps_set (i := 2) scPlain.nd rfl (Or.inl rfl) (pe_lst (pa_cons pe_str (pa_cons pe_str (pa_cons pe_str (pa_cons pe_str (pa_cons pe_str (pa_cons pe_str (pa_cons pe_str (pa_cons pe_str (pa_cons pe_str (pa_cons pe_str pa_nil))))))))))))
    (pss_cons (ps_if (pt_cmpR op_eq (pe_op op_mod (pv 1) pe_int) pe_int (nomark _))
      (pss_one (ps_for PassesOwn.never rfl (pi_range1 rfl T.range (pa_cons (pe_op op_add pe_int (pe_op op_mod (pe_op op_fdiv (pv 1) pe_int) pe_int)) pa_nil)) (pg_name (i := 3) scPlain.nd rfl (Or.inl rfl))
        (pss_one (ps_asg (pe_ix ix_list (pv 2) (pe_op op_mod (pe_op op_add (pe_op op_fdiv (pv 1) pe_int) (pe_op op_mul pe_int (pv 3))) pe_int) (fun _ _ => rfl)) (pg_sub (pv 0) (pe_op op_add (pe_op op_mul pe_int (pv 3)) pe_int) set_list))))) pss_nil)
    (pss_one (ps_ret (pv 0)))), ?_⟩
  have hb := big
  refine ⟨(by show 10 ≤ sizeLine; decide), fun p hp => ?_⟩
  have g1 := same_new hp (.lst (ten.map V.str))
  have e1 : upd H p (.lst (ten.map V.str)) p = some (.lst (ten.map V.str)) := upd_same
  have m1 := g1 _ _ hm
  have pm : m ≠ p := ne_of_none hm hp
  show (tSeq _ _ : TS) _ _ (upd H p (.lst (ten.map V.str)))
  generalize upd H p (.lst (ten.map V.str)) = H1 at g1 e1 m1 ⊢
  refine ⟨_, rfl, _, _, rfl, rfl, (by show (0 : Int) < _; decide), rfl, _, rfl, ?_⟩
  refine ite2 (fun _ => ?_) (fun _ => ?_)
  · have x0 : 0 ≤ c / 4 % 3 := Int.emod_nonneg _ (by decide)
    have x1 : c / 4 % 3 < 3 := Int.emod_lt_of_pos _ (by decide)
    refine ⟨_, rfl, _, _, rfl, rfl, ⟨by decide, by decide⟩, _, _, rfl, rfl, (by show (0 : Int) < _; decide), _, _, rfl, rfl, 2 + c / 4 % 3, rfl, by omega, by omega, ?_⟩
    refine for_range (lo := 0) (n := (2 + c / 4 % 3).toNat) (fun i σ' H' => ∃ (zs : List Str) (u : Option V), σ' = [some (.ref m), some (.int c), some (.ref p), u] ∧ H' m = some (.lst (zs.map V.str)) ∧ H' p = some (.lst (ten.map V.str)) ∧ (∀ b o, b ≠ m → H b = some o → H' b = some o) ∧ zs.length = 10 ∧ ∀ x ∈ zs, Wd x) ?_ ?_ ?_
    · exact ⟨ws, none, rfl, m1, e1, fun b o _ e => g1 _ _ e, hl, hw⟩
    · rintro i σ' H' hi ⟨zs, u, rfl, h1, h2, h3, h4, h5⟩
      obtain ⟨y, hy, ey⟩ := at_str (ws := ten) (k := (c / 12 + 3 * (0 + (i : Int))) % 10) (Int.emod_nonneg _ (by decide)) (Int.emod_lt_of_pos _ (by decide))
      refine ⟨_, rfl, _, rfl, _, _, rfl, rfl, ⟨by decide, by decide⟩, _, rfl, _, _, rfl, rfl, .inl ⟨by decide, by decide⟩, _, _, rfl, rfl, _, _, rfl, rfl, (by show (0 : Int) < _; decide), p, _, _, _, rfl, rfl, SqL.of h2, ey, ?_⟩
      have hi4 : i < 4 := by omega
      have hix : ixN (zs.map V.str).length (2 * (0 + (i : Int)) + 1) = some (2 * i + 1) := by
        unfold ixN
        rw [List.length_map, h4, if_pos (by omega), if_pos (by omega)]
        congr 1
        omega
      refine ⟨_, rfl, _, rfl, _, _, rfl, rfl, .inl ⟨by decide, by decide⟩, _, _, rfl, rfl, m, _, _, _, rfl, rfl, h1, hix, ?_⟩
      refine ⟨zs.set (2 * i + 1) y, _, rfl, by rw [upd_same, List.map_set], by rw [upd_ne pm.symm]; exact h2, fun b o hb e => by rw [upd_ne hb]; exact h3 b o hb e, by rw [List.length_set]; exact h4, fun x hx => ?_⟩
      rcases List.mem_or_eq_of_mem_set hx with k | k
      · exact h5 x k
      · rw [k]; exact ten_wd y hy
    · rintro σ' H' ⟨zs, u, rfl, h1, h2, h3, h4, h5⟩
      exact ⟨_, rfl, q zs H' h1 h3 h4 h5⟩
  · exact ⟨_, rfl, q ws H1 m1 (fun b o _ e => g1 _ _ e) hl hw⟩
end
end D
namespace D
open PySem L2
def lvl (H : Hp) (ts : List Th) (l : Addr) : Prop := ∃ xs, H l = some (.lst xs) ∧ thsR H ts xs
structure Stk (H0 H : Hp) (np ip : Addr) (nums : List Int) (tss : List (List Th)) (ls : List Addr) : Prop where
  same : Same H0 H
  hn : H np = some (.lst (nums.map V.int))
  hi : H ip = some (.lst (ls.map V.ref))
  lv : Paired (lvl H) tss ls
  nd : ls.Nodup
  ni : np ≠ ip
  nn : np ∉ ls
  ii : ip ∉ ls
  fn : H0 np = none
  fi : H0 ip = none
  fl : ∀ l ∈ ls, H0 l = none
theorem lvls_keep {H H' : Hp} (g : TSame H H') : ∀ {tss : List (List Th)} {ls : List Addr}, Paired (lvl H) tss ls → (∀ l ∈ ls, ∀ o, H l = some o → H' l = some o) → Paired (lvl H') tss ls
  | _, _, .nil, _ => .nil
  | _ :: _, l :: _, .cons ⟨xs, h1, h2⟩ r, k => .cons ⟨xs, k l List.mem_cons_self _ h1, h2.mono g⟩ (lvls_keep g r fun m hm => k m (List.mem_cons_of_mem _ hm))
theorem paired_split {α β : Type} {F : α → β → Prop} : ∀ {l l' : List α} {m : List β}, Paired F (l ++ l') m → ∃ m1 m2, m = m1 ++ m2 ∧ Paired F l m1 ∧ Paired F l' m2
  | [], _, m, h => ⟨[], m, rfl, .nil, h⟩
  | _ :: _, _, _ :: _, .cons q r => by
    obtain ⟨m1, m2, e, h1, h2⟩ := paired_split r
    exact ⟨_ :: m1, m2, by rw [e]; rfl, .cons q h1, h2⟩
theorem paired_app {α β : Type} {F : α → β → Prop} : ∀ {l l' : List α} {m m' : List β}, Paired F l m → Paired F l' m' → Paired F (l ++ l') (m ++ m')
  | _, _, _, _, .nil, h => h
  | _ :: _, _, _ :: _, _, .cons q r, h => .cons q (paired_app r h)
theorem paired_len {α β : Type} {F : α → β → Prop} : ∀ {l : List α} {m : List β}, Paired F l m → l.length = m.length
  | _, _, .nil => rfl
  | _ :: _, _ :: _, .cons _ r => by rw [List.length_cons, List.length_cons, paired_len r]
def spEnded : Sp := fun vs H Q _ => ∃ (H0 : Hp) (np ip : Addr) (nums : List Int) (n : Int) (tss : List (List Th)) (ts1 ts2 : List Th) (ls : List Addr), vs = [.ref np, .ref ip] ∧ Stk H0 H np ip (nums ++ [n]) (tss ++ [ts1, ts2]) ls ∧ ts1.length ≤ 1000 ∧ ts2.length ≤ 1000 ∧
  ∀ H' ls', Stk H0 H' np ip nums (tss ++ [ts1 ++ [.part n (F.of ts2)]]) ls' → Q .non H'
section
variable {P : Program} {w : World} {K : PySem.W.Frag} {mg : Str → Option Value} {base : Heap} {f : Addr} {fd : FuncData}
theorem scEnded : FnScope ["_law_numbers", "_law_inner", "_law_part"] ["_law_numbers", "_law_inner"] (defScope s_l_ended) := ⟨rfl, rfl, rfl, by decide +kernel, rfl, by decide +kernel, by decide +kernel⟩
theorem last_map {α : Type} (g : α → V) (l : List α) (x : α) : ((l ++ [x]).map g)[((l ++ [x]).map g).length - 1]? = some (g x) ∧ ((l ++ [x]).map g).dropLast = l.map g := by
  rw [List.map_append]
  refine ⟨?_, by simp⟩
  rw [List.length_append, List.length_map]
  simp
set_option maxHeartbeats 4000000 in
theorem ok_ended (F : Fun K "_law_ended" "_law_ended" s_l_ended f fd) (T : Nm mg) : FnOk P w K mg base CX0 1 f fd ["_law_numbers", "_law_inner"] spEnded := by
  refine F.ok scEnded (fun vs H Q E h => ?_) (fun cdv A outer s H vs Q E hr h => ?_)
  · obtain ⟨H0, np, ip, nums, n, tss, ts1, ts2, ls, rfl, _⟩ := h
    rfl
  obtain ⟨H0, np, ip, nums, n, tss, ts1, ts2, ls, rfl, S, b1, b2, q⟩ := h
  refine ⟨_, pss_cons (ps_set (i := 2) scEnded.nd rfl (Or.inl rfl) (pe_tup (pa_cons pe_str (pa_cons (pe_bm0 PySem.F.plainAttrs_list PySem.F.slot_list_pop PySem.F.type_list_pop mt_pop (pv 0)) (pa_cons (pe_callTy call_tuple_of rfl T.tuple PyProof.Rows.boot_tuple (pa_cons (pe_bm0 PySem.F.plainAttrs_list PySem.F.slot_list_pop PySem.F.type_list_pop mt_pop (pv 1)) pa_nil)) pa_nil)))))
    (pss_one (ps_expr (pe_bm PySem.F.plainAttrs_list PySem.F.slot_list_append PySem.F.type_list_append mt_append (pe_ix ix_list (pv 1) (pe_un un_neg pe_int) (fun _ _ => rfl)) (pa_cons (pv 2) pa_nil)))), ?_⟩
  have hb := big
  obtain ⟨l0, l12, e0, p0, p12⟩ := paired_split S.lv
  cases p12 with
  | cons k1 p2 =>
    rename_i a1 m1
    cases p2 with
    | cons k2 p3 =>
      rename_i a2 m2
      cases p3
      obtain ⟨xs1, h1, t1⟩ := k1
      obtain ⟨xs2, h2, t2⟩ := k2
      subst e0
      have m1 : a1 ∈ l0 ++ [a1, a2] := List.mem_append_right _ List.mem_cons_self
      have m2 : a2 ∈ l0 ++ [a1, a2] := List.mem_append_right _ (List.mem_cons_of_mem _ List.mem_cons_self)
      have n1p : a1 ≠ np := fun e => S.nn (e ▸ m1)
      have n1i : a1 ≠ ip := fun e => S.ii (e ▸ m1)
      have n2p : a2 ≠ np := fun e => S.nn (e ▸ m2)
      have n2i : a2 ≠ ip := fun e => S.ii (e ▸ m2)
      have nd := S.nd
      rw [List.nodup_append] at nd
      obtain ⟨nd0, nd1, ndx⟩ := nd
      have n01 : a1 ∉ l0 := fun z => ndx a1 z a1 List.mem_cons_self rfl
      have eN := last_map V.int nums n
      refine ⟨_, rfl, .inl ⟨rfl, _, SqL.of S.hn⟩, np, _, _, rfl, rfl, S.hn, eN.1, ?_⟩
      rw [eN.2]
      have gA : TSame H (upd H np (.lst (nums.map V.int))) := TSame.lst S.hn
      have i1 : upd H np (.lst (nums.map V.int)) ip = some (.lst ((l0 ++ [a1, a2]).map V.ref)) := by rw [upd_ne S.ni.symm]; exact S.hi
      have o1 : ∀ b o, b ≠ np → H b = some o → upd H np (.lst (nums.map V.int)) b = some o := fun b o hb e => by rw [upd_ne hb]; exact e
      have v1 : upd H np (.lst (nums.map V.int)) np = some (.lst (nums.map V.int)) := upd_same
      have f1 : Same H0 (upd H np (.lst (nums.map V.int))) := keep_upd S.fn S.same _
      generalize upd H np (.lst (nums.map V.int)) = H1 at gA i1 o1 v1 f1 ⊢
      have eI := last_map V.ref (l0 ++ [a1]) a2
      rw [show (l0 ++ [a1]) ++ [a2] = l0 ++ [a1, a2] by simp] at eI
      refine ⟨_, rfl, .inl ⟨rfl, _, SqL.of i1⟩, ip, _, _, rfl, rfl, i1, eI.1, ?_⟩
      rw [eI.2]
      have gB : TSame H1 (upd H1 ip (.lst ((l0 ++ [a1]).map V.ref))) := TSame.lst i1
      have o2 : ∀ b o, b ≠ ip → H1 b = some o → upd H1 ip (.lst ((l0 ++ [a1]).map V.ref)) b = some o := fun b o hb e => by rw [upd_ne hb]; exact e
      have v2 : upd H1 ip (.lst ((l0 ++ [a1]).map V.ref)) ip = some (.lst ((l0 ++ [a1]).map V.ref)) := upd_same
      have f2 : Same H0 (upd H1 ip (.lst ((l0 ++ [a1]).map V.ref))) := keep_upd S.fi f1 _
      generalize upd H1 ip (.lst ((l0 ++ [a1]).map V.ref)) = H2 at gB o2 v2 f2 ⊢
      have h2' : H2 a2 = some (.lst xs2) := o2 _ _ n2i (o1 _ _ n2p h2)
      have h1' : H2 a1 = some (.lst xs1) := o2 _ _ n1i (o1 _ _ n1p h1)
      refine ⟨a2, _, rfl, .inl ⟨SqL.of h2', fun t ht => ?_⟩⟩
      have gC := same_new ht (.tup xs2)
      have e3 : upd H2 t (.tup xs2) t = some (.tup xs2) := upd_same
      generalize upd H2 t (.tup xs2) = H3 at gC e3 ⊢
      refine ⟨(by show 3 ≤ sizeLine; decide), fun p hp => ?_⟩
      have gD := same_new hp (.tup [.str "part", .int n, .ref t])
      have e4 : upd H3 p (.tup [.str "part", .int n, .ref t]) p = some (.tup [.str "part", .int n, .ref t]) := upd_same
      generalize upd H3 p (.tup [.str "part", .int n, .ref t]) = H4 at gD e4 ⊢
      have g4 : TSame H H4 := ((gA.trans gB).trans gC.t).trans gD.t
      have h1'' := gD _ _ (gC _ _ h1')
      have v2' := gD _ _ (gC _ _ v2)
      have v1' := gD _ _ (gC _ _ (o2 _ _ S.ni v1))
      have hat : atI ((l0 ++ [a1]).map V.ref) (-1) = some (.ref a1) := by rw [List.map_append]; exact atI_last _ _
      have hl1 : xs1.length ≤ 1000 := by rw [← paired_len t1]; exact b1
      refine ⟨_, rfl, 1, rfl, ip, _, _, _, rfl, rfl, SqL.of v2', hat, .inl ⟨rfl, _, SqL.of h1''⟩, _, rfl, a1, _, _, rfl, rfl, h1'', by omega, ?_⟩
      have gE : TSame H4 (upd H4 a1 (.lst (xs1 ++ [.ref p]))) := TSame.lst h1''
      have g5 := g4.trans gE
      have hp4 : thR H4 (.part n (L2.F.of ts2)) (.ref p) := ⟨p, t, xs2, rfl, e4, gD _ _ e3, fR_iff.mpr (by rw [ths_of]; exact t2.mono g4)⟩
      refine q _ (l0 ++ [a1]) ⟨?_, ?_, ?_, ?_, ?_, S.ni, ?_, ?_, S.fn, S.fi, ?_⟩
      · exact keep_upd (S.fl a1 m1) ((f2.trans gC).trans gD) _
      · rw [upd_ne n1p.symm]
        exact v1'
      · rw [upd_ne n1i.symm]
        exact v2'
      · refine paired_app (lvls_keep g5 p0 fun l hl o e => ?_) (.cons ⟨_, upd_same, paired_app (t1.mono g5) (.cons (hp4.mono gE) .nil)⟩ .nil)
        have hm : l ∈ l0 ++ [a1, a2] := List.mem_append_left _ hl
        rw [upd_ne (fun (z : l = a1) => n01 (z ▸ hl))]
        exact gD _ _ (gC _ _ (o2 _ _ (fun z => S.ii (z ▸ hm)) (o1 _ _ (fun z => S.nn (z ▸ hm)) e)))
      · rw [List.nodup_append]
        refine ⟨nd0, by simp, fun x hx y hy z => ?_⟩
        rw [List.mem_singleton.mp hy] at z
        exact n01 (z ▸ hx)
      · exact fun z => S.nn (by
          rcases List.mem_append.mp z with z | z
          · exact List.mem_append_left _ z
          · rw [List.mem_singleton.mp z]; exact m1)
      · exact fun z => S.ii (by
          rcases List.mem_append.mp z with z | z
          · exact List.mem_append_left _ z
          · rw [List.mem_singleton.mp z]; exact m1)
      · intro l hl
        rcases List.mem_append.mp hl with z | z
        · exact S.fl l (List.mem_append_left _ z)
        · rw [List.mem_singleton.mp z]; exact S.fl a1 m1
end
end D
namespace D
open PySem L2
theorem inV_str (z : Str) (zs : List Str) : inV (.str z) (zs.map V.str) = decide (z ∈ zs) := by
  unfold inV
  induction zs with
  | nil => simp
  | cons y r ih =>
    rw [List.map_cons, List.any_cons, ih]
    have e : eqV (.str y) (.str z) = decide (y = z) := by
      first
        | rfl
        | (unfold eqV; simp)
    rw [e, ← Bool.decide_or]
    exact decide_eq_decide.mpr ⟨fun h => h.elim (fun e => by rw [e]; exact List.mem_cons_self) fun h => List.mem_cons_of_mem _ h, fun h => (List.mem_cons.mp h).imp (fun e => e.symm) id⟩
theorem flat_strs (zs : List Str) : (zs.map V.str).all flatV = true := by
  rw [List.all_eq_true]
  intro x hx
  obtain ⟨y, _, rfl⟩ := List.mem_map.mp hx
  rfl
def spBends : Sp := fun vs H Q _ => ∃ (last : Str) (c k : Int), vs = [.str last, .int c, .int k] ∧ Wd last ∧ 0 ≤ k ∧ k ≤ 5 ∧ ∀ (bs : List (Str × Str)) v H', Same H H' → bR H' bs v → BOk last bs → Q v H'
theorem bR_mono {H H' : Hp} {bs : List (Str × Str)} {v : V} (h : bR H bs v) (g : Same H H') : bR H' bs v := by
  obtain ⟨a, xs, e, q, p⟩ := h
  exact ⟨a, xs, e, g _ _ q, Paired.mapP p fun _ _ ⟨c, e, z⟩ => ⟨c, e, g _ _ z⟩⟩
theorem two_good {d1 d2 : Nat} (h1 : good d1 = true) (h2 : good d2 = true) : allGood ((⟨#[d1]⟩ : Str) ++ ⟨#[d2]⟩) ∧ ((⟨#[d1]⟩ : Str) ++ ⟨#[d2]⟩).length = 2 := by
  refine ⟨?_, by rw [len_app] <;> rfl⟩
  unfold allGood
  rw [cs_app, List.all_append]
  show ([d1].all good && [d2].all good) = true
  simp [h1, h2]
structure BIn (H H' : Hp) (last : Str) (b kn : Addr) (bs : List (Str × Str)) (i : Nat) : Prop where
  same : Same H H'
  hb : bR H' bs (.ref b)
  hk : H' kn = some (.lst ((last :: bs.map (formW last)).map V.str))
  fk : H kn = none
  len : bs.length ≤ i
  fit : ∀ b ∈ bs, b.1.length ≤ last.length ∧ (cs last).drop (last.length - b.1.length) = cs b.1 ∧ b.2.length ≤ 20 ∧ allGood b.1 ∧ allGood b.2 ∧ 1 ≤ (formW last b).length ∧ (formW last b).length ≤ 20
  nd : (last :: bs.map (formW last)).Nodup
section
variable {P : Program} {w : World} {K : PySem.W.Frag} {mg : Str → Option Value} {base : Heap} {f : Addr} {fd : FuncData}
abbrev NB : List Str := ["_law_last", "_law_cell_here", "_law_many", "_law_some", "_law_bends_here", "_law_known", "_law_k", "_law_left", "_law_pair", "_law_put", "_law_form"]
theorem scBends : FnScope NB ["_law_last", "_law_cell_here", "_law_many"] (defScope s_l_bends) := ⟨rfl, rfl, rfl, by decide +kernel, rfl, by decide +kernel, by decide +kernel⟩
set_option maxHeartbeats 8000000 in
theorem ok_bends (F : Fun K "_law_bends" "_law_bends" s_l_bends f fd) (T : Nm mg) (GM : Def P w K mg base CX0 1 "_law_mixed" ["_law_number_here"] spMixed) : FnOk P w K mg base CX0 2 f fd ["_law_last", "_law_cell_here", "_law_many"] spBends := by
  refine F.ok scBends (fun vs H Q E h => ?_) (fun cdv A outer s H vs Q E hr h => ?_)
  · obtain ⟨last, c, k, rfl, _⟩ := h
    rfl
  obtain ⟨last, c, k, rfl, hlw, k0, k5, q⟩ := h
  refine ⟨_, pss_cons (ps_set (i := 3) scBends.nd rfl (Or.inl rfl) pe_str)
    (pss_cons (ps_set (i := 4) scBends.nd rfl (Or.inl rfl) (pe_tup pa_nil))
    (pss_cons (ps_set (i := 5) scBends.nd rfl (Or.inl rfl) (pe_lst (pa_cons (pv 0) pa_nil)))
    (pss_cons (ps_for PassesOwn.never rfl (pi_range1 rfl T.range (pa_cons (pv 2) pa_nil)) (pg_name (i := 6) scBends.nd rfl (Or.inl rfl))
      (pss_cons (ps_set (i := 1) scBends.nd rfl (Or.inl rfl) (pe_def GM hr (pa_cons (pv 1) pa_nil)))
      (pss_cons (ps_set (i := 7) scBends.nd rfl (Or.inl rfl) (pe_op op_sub (pe_callB call_len_str rfl T.len PySem.boot_len (pa_cons (pv 0) pa_nil)) (pe_callB (call_min2 rfl) rfl T.mn PyProof.Rows.boot_min (pa_cons (pe_callB call_len_str rfl T.len PySem.boot_len (pa_cons (pv 0) pa_nil)) (pa_cons (pe_ix ix_list (pe_lst (pa_cons pe_int (pa_cons pe_int (pa_cons pe_int (pa_cons pe_int pa_nil))))) (pe_op op_mod (pv 1) pe_int) (fun _ _ => rfl)) pa_nil)))))
      (pss_cons (ps_set (i := 8) scBends.nd rfl (Or.inl rfl) (pe_op op_add_str (pe_ix ix_str (pv 3) (pe_op op_mod (pe_op op_fdiv (pv 1) pe_int) pe_int) (fun _ _ => rfl)) (pe_ix ix_str (pv 3) (pe_op op_mod (pe_op op_fdiv (pv 1) pe_int) pe_int) (fun _ _ => rfl))))
      (pss_cons (ps_set (i := 9) scBends.nd rfl (Or.inl rfl) (pe_slice sl_str (pv 8) po_none (po_some (pe_op op_mod (pe_op op_fdiv (pv 1) pe_int) pe_int))))
      (pss_cons (ps_if (pt_cmpR op_eq (pe_op op_mod (pe_op op_fdiv (pv 1) pe_int) pe_int) pe_int (nomark _)) (pss_one (ps_set (i := 9) scBends.nd rfl (Or.inl rfl) (pe_slice sl_str (pe_op op_add_str (pv 8) (pe_op op_rep3 (pv 0) pe_int)) po_none (po_some (pe_op op_sub pe_int (pv 7)))))) pss_nil)
      (pss_cons (ps_set (i := 10) scBends.nd rfl (Or.inl rfl) (pe_op op_add_str (pe_slice sl_str (pv 0) po_none (po_some (pv 7))) (pv 9)))
      (pss_one (ps_if (PW.pt (pw_and (pt_cmpR op_notIn_seq (pv 10) (pv 5) (by with_unfolding_all rfl)) (pw_and1 (pt_chain op_le op_le pe_int (pe_callB call_len_str rfl T.len PySem.boot_len (pa_cons (pv 10) pa_nil)) pe_int))))
        (pss_cons (ps_expr (pe_bm PySem.F.plainAttrs_list PySem.F.slot_list_append PySem.F.type_list_append mt_append (pv 5) (pa_cons (pv 10) pa_nil)))
        (pss_one (ps_set (i := 4) scBends.nd rfl (Or.inl rfl) (pe_op op_catX (pv 4) (pe_tup (pa_cons (pe_tup (pa_cons (pe_slice sl_str (pv 0) (po_some (pv 7)) po_none) (pa_cons (pv 9) pa_nil))) pa_nil)))))) pss_nil)))))))))
    (pss_one (ps_ret (pv 4)))))), ?_⟩
  have hbg := big
  obtain ⟨L1, L20, Lg⟩ := hlw
  refine ⟨(by show 0 ≤ sizeLine; decide), fun b0 hb0 => ?_⟩
  have g0 := same_new hb0 (.tup [])
  have e0 : upd H b0 (.tup []) b0 = some (.tup []) := upd_same
  generalize upd H b0 (.tup []) = H0 at g0 e0 ⊢
  refine ⟨_, rfl, (by show 1 ≤ sizeLine; decide), fun kn hkn => ?_⟩
  have g1 := same_new hkn (.lst [.str last])
  refine ⟨_, rfl, k, rfl, by omega, by omega, ?_⟩
  refine for_range (lo := 0) (n := k.toNat) (fun i σ' H' => ∃ (x : Int) (b : Addr) (bs : List (Str × Str)) (u6 u7 u8 u9 u10 : Option V), σ' = [some (.str last), some (.int x), some (.int k), some (.str W62), some (.ref b), some (.ref kn), u6, u7, u8, u9, u10] ∧ BIn H H' last b kn bs i) ?_ ?_ ?_
  · exact ⟨c, b0, [], none, none, none, none, none, rfl, ⟨g0.trans g1, ⟨b0, [], rfl, g1 _ _ e0, .nil⟩, upd_same, g0.free hkn, Nat.le_refl _, (fun _ h => nomatch h), by simp⟩⟩
  · rintro i σ' H' hi ⟨x, b, bs, u6, u7, u8, u9, u10, rfl, B⟩
    refine ⟨_, rfl, x, rfl, ?_⟩
    generalize mixedZ x = y
    have y0 : 0 ≤ y % 4 := Int.emod_nonneg _ (by decide)
    have y1 : y % 4 < 4 := Int.emod_lt_of_pos _ (by decide)
    obtain ⟨a, ha, ea⟩ := at_int (is := [0, 1, 2, 20]) (k := y % 4) y0 y1
    have a0 : 0 ≤ a := by
      simp only [List.mem_cons, List.not_mem_nil, or_false] at ha
      omega
    refine ⟨_, rfl, last, rfl, by omega, _, rfl, last, rfl, by omega, (by show 4 ≤ sizeLine; decide), fun p1 hp1 => ?_⟩
    have k1 := same_new hp1 (.lst [.int 0, .int 1, .int 2, .int 20])
    refine ⟨_, rfl, _, _, rfl, rfl, (by show (0 : Int) < _; decide), p1, _, _, _, rfl, rfl, SqL.of upd_same, ea, _, _, rfl, _, _, rfl, rfl, ?_⟩
    have B1 : BIn H (upd H' p1 (.lst [.int 0, .int 1, .int 2, .int 20])) last b kn bs i := ⟨B.same.trans k1, bR_mono B.hb k1, k1 _ _ B.hk, B.fk, B.len, B.fit, B.nd⟩
    generalize upd H' p1 (.lst [.int 0, .int 1, .int 2, .int 20]) = H1 at B1 ⊢
    clear B k1 hp1 ea ha
    have lf0 : 0 ≤ (last.length : Int) - (if a < (last.length : Int) then a else (last.length : Int)) := by split <;> omega
    have lf1 : (last.length : Int) - (if a < (last.length : Int) then a else (last.length : Int)) ≤ (last.length : Int) := by split <;> omega
    dsimp only
    generalize (last.length : Int) - (if a < (last.length : Int) then a else (last.length : Int)) = lf at lf0 lf1 ⊢
    obtain ⟨d1, hd1, gd1⟩ := w62_at (i := y / 4 % 62) (Int.emod_nonneg _ (by decide)) (Int.emod_lt_of_pos _ (by decide))
    obtain ⟨d2, hd2, gd2⟩ := w62_at (i := y / 248 % 62) (Int.emod_nonneg _ (by decide)) (Int.emod_lt_of_pos _ (by decide))
    obtain ⟨pg, pl⟩ := two_good gd1 gd2
    have hz62 : W62.length ≤ sizeLine := by decide +kernel
    refine ⟨_, rfl, _, rfl, _, _, rfl, rfl, ⟨by decide, by decide⟩, _, _, rfl, rfl, (by show (0 : Int) < _; decide), W62, _, _, rfl, rfl, hz62, hd1, _, rfl, _, rfl, _, _, rfl, rfl, ⟨by decide, by decide⟩, _, _, rfl, rfl, (by show (0 : Int) < _; decide), W62, _, _, rfl, rfl, hz62, hd2, _, _, rfl, rfl, (by show 1 + 1 ≤ sizeLine; decide), ?_⟩
    generalize (⟨#[d1]⟩ : Str) ++ ⟨#[d2]⟩ = pr at pg pl
    have z0 : 0 ≤ y / 15376 % 3 := Int.emod_nonneg _ (by decide)
    have z1 : y / 15376 % 3 < 3 := Int.emod_lt_of_pos _ (by decide)
    refine ⟨_, rfl, _, rfl, _, _, rfl, rfl, ⟨by decide, by decide⟩, _, _, rfl, rfl, (by show (0 : Int) < _; decide), _, rfl, pr, rfl, by omega, ?_⟩
    have RST : ∀ (put : Str), put.length ≤ 20 → allGood put → ∀ (R : Ends) (t : TS), R.nx = (fun σ' H' => ∃ (x : Int) (b : Addr) (bs : List (Str × Str)) (u6 u7 u8 u9 u10 : Option V), σ' = [some (.str last), some (.int x), some (.int k), some (.str W62), some (.ref b), some (.ref kn), u6, u7, u8, u9, u10] ∧ BIn H H' last b kn bs (i + 1)) →
        t = tSeq (tAsg (tOp (fun x y H Q => ∃ i j, x = .str i ∧ y = .str j ∧ i.length + j.length ≤ sizeLine ∧ Q (.str (i ++ j)) H) (tSl rSlS (tVar 0) tNoPart (tPart (tVar 7))) (tVar 9)) (gName 10))
          (tIfS (tAnd (tTest (tOp (rIn K true) (tVar 10) (tVar 5))) (tTest (tChain (rI0 fun i j => .bl (decide (i ≤ j))) (rI0 fun i j => .bl (decide (i ≤ j))) (tC (.int 1)) (tCB (fun xs H Q => ∃ z, xs = [.str z] ∧ z.length ≤ sizeLine ∧ Q (.int z.length) H) (tCons (tVar 10) tNil)) (tC (.int 20)))))
            (tSeq (tDrop (tBM K "list" rAppend (tVar 5) (tCons (tVar 10) tNil))) (tAsg (tOp rCatX (tVar 4) (tTup (tCons (tTup (tCons (tSl rSlS (tVar 0) (tPart (tVar 7)) tNoPart) (tCons (tVar 9) tNil))) tNil))) (gName 4))) tNext) →
        t R [some (.str last), some (.int y), some (.int k), some (.str W62), some (.ref b), some (.ref kn), some (.int (0 + (i : Int))), some (.int lf), some (.str pr), some (.str put), u10] H1 := by
      rintro put p20 pgood R t hR rfl
      have lfn : lf.toNat ≤ last.length := by omega
      have hz : last.length ≤ sizeLine := by omega
      have c1 : (cutC last none (some lf)).length = lf.toNat := by rw [cut_to last lf0, List.length_take, cs_len]; omega
      have hfm : (⟨(cutC last none (some lf)).toArray⟩ : Str) ++ put = formW last (⟨(cutC last (some lf) none).toArray⟩, put) := by
        have e1 : cs ((⟨(cutC last none (some lf)).toArray⟩ : Str) ++ put) = (cs last).take lf.toNat ++ cs put := by rw [cs_app, cs_mk, cut_to last lf0]
        have e2 : cs (formW last (⟨(cutC last (some lf) none).toArray⟩, put)) = (cs last).take lf.toNat ++ cs put := by
          have cl : (⟨(cutC last (some lf) none).toArray⟩ : Str).length = last.length - lf.toNat := by rw [len_mk, cut_from last lf0, List.length_drop, cs_len]
          unfold formW
          rw [cs_mk, cl]
          have : last.length - (last.length - lf.toNat) = lf.toNat := by omega
          rw [this]
        exact str_ext (e1.trans e2.symm)
      refine ⟨_, rfl, _, rfl, lf, rfl, last, rfl, hz, _, rfl, _, _, rfl, rfl, (by rw [len_mk, c1]; omega), ?_⟩
      rw [hfm]
      have cutl : (⟨(cutC last (some lf) none).toArray⟩ : Str).length = last.length - lf.toNat := by rw [len_mk, cut_from last lf0, List.length_drop, cs_len]
      have cutg : allGood (⟨(cutC last (some lf) none).toArray⟩ : Str) := .mk (by rw [cut_from last lf0]; exact all_drop Lg)
      have cuts : cs (⟨(cutC last (some lf) none).toArray⟩ : Str) = (cs last).drop lf.toNat := by rw [cs_mk, cut_from last lf0]
      have fl : (formW last (⟨(cutC last (some lf) none).toArray⟩, put)).length ≤ 40 := by rw [← hfm, len_app, len_mk, c1]; omega
      generalize hct : (⟨(cutC last (some lf) none).toArray⟩ : Str) = ct at cutl cutg cuts fl hfm ⊢
      refine ⟨_, rfl, _, rfl, kn, _, rfl, .inl (SqL.of B1.hk), rfl, flat_strs _, _, rfl, ?_⟩
      have skip : R.nx [some (.str last), some (.int y), some (.int k), some (.str W62), some (.ref b), some (.ref kn), some (.int (0 + (i : Int))), some (.int lf), some (.str pr), some (.str put), some (.str (formW last (ct, put)))] H1 := by
        rw [hR]
        exact ⟨y, b, bs, _, _, _, _, _, rfl, ⟨B1.same, B1.hb, B1.hk, B1.fk, by have := B1.len; omega, B1.fit, B1.nd⟩⟩
      refine ite2 (fun d => ?_) (fun d => ?_)
      · have dn : formW last (ct, put) ∉ last :: bs.map (formW last) := by
          have d' : (!inV (.str (formW last (ct, put))) ((last :: bs.map (formW last)).map V.str)) = true := d
          rw [inV_str] at d'
          simpa using d'
        refine ⟨_, rfl, _, rfl, by omega, _, _, rfl, rfl, _, rfl, ?_⟩
        refine ite2 (fun d2 => ?_) (fun d2 => ?_)
        · have d2' : (1 : Int) ≤ ((formW last (ct, put)).length : Int) := of_decide_eq_true d2
          refine ⟨_, _, rfl, rfl, _, rfl, ?_⟩
          refine ite2 (fun d3 => ?_) (fun d3 => ?_)
          · have d3' : ((formW last (ct, put)).length : Int) ≤ 20 := of_decide_eq_true d3
            have hbl := B1.len
            refine ⟨_, rfl, .inl ⟨rfl, _, SqL.of B1.hk⟩, _, rfl, kn, _, _, rfl, rfl, B1.hk, by rw [List.length_map, List.length_cons, List.length_map]; omega, ?_⟩
            have kb : Same H (upd H1 kn (.lst ((last :: bs.map (formW last)).map V.str ++ [.str (formW last (ct, put))]))) := keep_upd B1.fk B1.same _
            have hk2 : upd H1 kn (.lst ((last :: bs.map (formW last)).map V.str ++ [.str (formW last (ct, put))])) kn = some (.lst ((last :: bs.map (formW last)).map V.str ++ [.str (formW last (ct, put))])) := upd_same
            have tb : TSame H1 (upd H1 kn (.lst ((last :: bs.map (formW last)).map V.str ++ [.str (formW last (ct, put))]))) := TSame.lst B1.hk
            obtain ⟨ba, bxs, eb, hba, hbp⟩ := B1.hb
            cases eb
            have hba2 := tb _ _ hba
            have hbp2 : Paired (cpR (upd H1 kn (.lst ((last :: bs.map (formW last)).map V.str ++ [.str (formW last (ct, put))])))) bs bxs := Paired.mapP hbp fun _ _ ⟨c, e, z⟩ => ⟨c, e, tb _ _ z⟩
            generalize upd H1 kn (.lst ((last :: bs.map (formW last)).map V.str ++ [.str (formW last (ct, put))])) = H2 at kb hk2 tb hba2 hbp2 ⊢
            refine ⟨_, rfl, _, rfl, _, rfl, lf, rfl, last, rfl, hz, _, rfl, (by show 2 ≤ sizeLine; decide), fun p2 hp2 => ⟨(by show 1 ≤ sizeLine; decide), fun p3 hp3 => ?_⟩⟩
            rw [hct] at hp3 ⊢
            have k2 := same_new hp2 (.tup [.str ct, .str put])
            have k3 := same_new hp3 (.tup [.ref p2])
            have kk := k2.trans k3
            refine ⟨b, p3, _, _, rfl, rfl, kk _ _ hba2, upd_same, by rw [← paired_len hbp2]; show bs.length + 1 ≤ _; omega, fun p4 H5 k5 h5 => ?_⟩
            have kz := kk.trans k5
            show R.nx _ _
            rw [hR]
            refine ⟨y, p4, bs ++ [(ct, put)], _, _, _, _, _, rfl, ⟨kb.trans kz, ⟨p4, _, rfl, h5, paired_app (Paired.mapP hbp2 fun _ _ ⟨c, e, z⟩ => ⟨c, e, kz _ _ z⟩) (.cons ⟨p2, rfl, k5 _ _ (k3 _ _ upd_same)⟩ .nil)⟩, ?_, B1.fk, by rw [List.length_append]; show _ + 1 ≤ _; omega, fun z hz => ?_, ?_⟩⟩
            · rw [kz _ _ hk2, List.map_append] <;> simp
            · rcases List.mem_append.mp hz with z' | z'
              · exact B1.fit z z'
              · rw [List.mem_singleton.mp z']
                refine ⟨by show ct.length ≤ _; omega, ?_, p20, cutg, pgood, by omega, by omega⟩
                show (cs last).drop (last.length - ct.length) = cs ct
                rw [cutl, cuts]
                congr 1
                omega
            · rw [List.map_append, ← List.cons_append, List.nodup_append]
              refine ⟨B1.nd, by simp, fun z hz z2 hz2 e => ?_⟩
              have hz2 : z2 = formW last (ct, put) := by simpa using hz2
              exact dn (by rw [← hz2, ← e]; exact hz)
          · exact skip
        · refine ⟨_, rfl, ?_⟩
          exact iteF skip
      · exact iteF skip
    have z2 : (cutC pr none (some (y / 15376 % 3))).length ≤ 2 := by rw [cut_to pr z0, List.length_take]; omega
    have z3 : (cutC pr none (some (y / 15376 % 3))).all good = true := by rw [cut_to pr z0]; exact all_take pg
    refine ⟨_, rfl, _, _, rfl, rfl, ⟨by decide, by decide⟩, _, _, rfl, rfl, (by show (0 : Int) < _; decide), rfl, _, rfl, ?_⟩
    refine ite2 (fun _ => ?_) (fun _ => ?_)
    · refine ⟨_, rfl, _, rfl, last, rfl, rfl, L1, by omega, _, _, rfl, rfl, ?_, _, rfl, _, _, rfl, rfl, _, rfl, _, rfl, ?_, ?_⟩
      · show pr.length + (last.cps ++ last.cps ++ last.cps).size ≤ sizeLine
        rw [Array.size_append, Array.size_append]
        have : last.cps.size ≤ 20 := L20
        omega
      · rw [len_app]
        show pr.length + (last.cps ++ last.cps ++ last.cps).size ≤ sizeLine
        rw [Array.size_append, Array.size_append]
        have : last.cps.size ≤ 20 := L20
        omega
      · show (tSeq _ _ : TS) _ _ _
        refine RST _ ?_ (.mk ?_) _ _ rfl rfl
        · rw [len_mk, cut_to _ (by omega), List.length_take]
          omega
        · rw [cut_to _ (by omega)]
          refine all_take ?_
          rw [cs_app, List.all_append]
          have e3 : cs (⟨last.cps ++ last.cps ++ last.cps⟩ : Str) = cs last ++ cs last ++ cs last := by simp [cs]
          have Lg' : (cs last).all good = true := Lg
          rw [e3, List.all_append, List.all_append, Lg', pg] <;> rfl
    · show (tSeq _ _ : TS) _ _ _
      exact RST _ (by rw [len_mk]; omega) (.mk z3) _ _ rfl rfl
  · rintro σ' H' ⟨x, b, bs, u6, u7, u8, u9, u10, rfl, B⟩
    have := B.len
    exact ⟨_, rfl, q bs _ H' B.same B.hb ⟨by omega, B.fit, B.nd⟩⟩
end
end D
namespace D
open PySem L2
section
variable {P : Program} {w : World} {K : PySem.W.Frag} {mg : Str → Option Value} {base : Heap} {f : Addr} {fd : FuncData}
abbrev NT : List Str := ["_law_cell_here", "_law_number_here", "_law_menu_here", "_law_size", "_law_scope", "_law_first", "_law_phrase", "_law_bends_here"]
theorem scThing : FnScope NT ["_law_cell_here", "_law_number_here", "_law_menu_here", "_law_size"] (defScope s_l_thing) := ⟨rfl, rfl, rfl, by decide +kernel, rfl, by decide +kernel, by decide +kernel⟩
set_option maxHeartbeats 8000000 in
theorem ok_thing (F : Fun K "_law_thing" "_law_thing" s_l_thing f fd) (T : Nm mg) (GM : Def P w K mg base CX0 1 "_law_mixed" ["_law_number_here"] spMixed) (GR : Def P w K mg base CX0 2 "_law_row" ["_law_cell_here", "_law_menu_here", "_law_many"] (spRow K)) (GB : Def P w K mg base CX0 2 "_law_bends" ["_law_last", "_law_cell_here", "_law_many"] spBends) : FnOk P w K mg base CX0 3 f fd ["_law_cell_here", "_law_number_here", "_law_menu_here", "_law_size"] (spThing K) := by
  refine F.ok scThing (fun vs H Q E h => ?_) (fun cdv A outer s H vs Q E hr h => ?_)
  · obtain ⟨c, n, m, ws, k, rfl, _⟩ := h
    rfl
  obtain ⟨c, n, m, ws, k, rfl, hS, hw, hwd, k0, k1, q⟩ := h
  refine ⟨_, pss_cons (ps_if (pt_cmpR op_lt (pe_op op_mod (pv 0) pe_int) pe_int (nomark _)) (pss_one (ps_ret (pe_tup (pa_cons pe_str (pa_cons (pv 1) (pa_cons (pe_def GR hr (pa_cons (pe_op op_fdiv (pv 0) pe_int) (pa_cons (pv 2) (pa_cons (pv 3) pa_nil)))) pa_nil)))))) pss_nil)
    (pss_cons (ps_set (i := 4) scThing.nd rfl (Or.inl rfl) (pe_ix ix_list (pe_lst (pa_cons pe_str (pa_cons pe_str (pa_cons pe_str (pa_cons pe_str pa_nil))))) (pe_op op_mod (pe_op op_fdiv (pv 0) pe_int) pe_int) (fun _ _ => rfl)))
    (pss_cons (ps_set (i := 5) scThing.nd rfl (Or.inr rfl) (pe_def GM (hr.mono (by decide)) (pa_cons (pe_op op_fdiv (pv 0) pe_int) pa_nil)))
    (pss_cons (ps_set (i := 6) scThing.nd rfl (Or.inl rfl) (pe_callTy call_tuple_of rfl T.tuple PyProof.Rows.boot_tuple (pa_cons (pe_comp NT (defScope s_l_thing) rfl (by decide +kernel) (by decide +kernel) (pi_range1 rfl T.range (pa_cons (pe_op op_add pe_int (pe_op op_mod (pe_op op_fdiv (pv 5) pe_int) pe_int)) pa_nil)) (fun _ _ _ _ _ => pts_nil)
        (fun _ _ _ _ _ => pe_ix (r := rIxL K) ix_list (pv 2) (pe_op op_mod (pe_op op_fdiv (pv 5) (pe_op op_add (pe_op op_mul pe_int (pv 8)) pe_int)) pe_int) (fun _ _ => rfl))) pa_nil)))
    (pss_cons (ps_set (i := 7) scThing.nd rfl (Or.inl rfl) (pe_def GB hr (pa_cons (pe_ix ix_tup (pv 6) (pe_un un_neg pe_int) (fun _ _ => rfl)) (pa_cons (pv 5) (pa_cons (pe_op op_mod (pv 5) pe_int) pa_nil)))))
    (pss_one (ps_ret (pe_tup (pa_cons pe_str (pa_cons (pv 1) (pa_cons (pv 4) (pa_cons (pv 6) (pa_cons (pv 7) (pa_cons (pe_def GR hr (pa_cons (pv 5) (pa_cons (pv 2) (pa_cons (pv 3) pa_nil)))) pa_nil))))))))))))), ?_⟩
  have hb := big
  refine ⟨_, rfl, _, _, rfl, rfl, (by show (0 : Int) < _; decide), _, _, rfl, rfl, _, rfl, ?_⟩
  refine ite2 (fun d => ?_) (fun d => ?_)
  · refine ⟨_, rfl, _, rfl, _, _, rfl, rfl, ⟨by decide, by decide⟩, _, rfl, _, rfl, _, m, ws, k, rfl, hS, hw, by omega, by omega, fun zs r H1 g1 h1 lz mz => ?_⟩
    refine ⟨(by show 3 ≤ sizeLine; decide), fun p hp => ?_⟩
    have g2 := same_new hp (.tup [.str "say", .int n, .ref r])
    refine q (.say n zs) _ _ (g1.trans g2) ⟨p, .ref r, rfl, upd_same, r, rfl, g2 _ _ h1⟩ (.inl ⟨zs, rfl, by omega, by omega, fun x hx => hwd x (mz x hx)⟩)
  · refine ⟨(by show 4 ≤ sizeLine; decide), fun p1 hp1 => ?_⟩
    have g1 := same_new hp1 (.lst [.str "all", .str "part", .str "here", .str "else"])
    obtain ⟨sc, hsc0, hsc⟩ := at_str (ws := ["all", "part", "here", "else"]) (k := c / 9 % 4) (Int.emod_nonneg _ (by decide)) (Int.emod_lt_of_pos _ (by decide))
    refine ⟨_, rfl, _, _, rfl, rfl, ⟨by decide, by decide⟩, _, _, rfl, rfl, (by show (0 : Int) < _; decide), p1, _, _, _, rfl, rfl, SqL.of upd_same, hsc, ?_⟩
    generalize upd H p1 (.lst [.str "all", .str "part", .str "here", .str "else"]) = H1 at g1 ⊢
    refine ⟨_, rfl, _, _, rfl, rfl, ⟨by decide, by decide⟩, _, rfl, ?_⟩
    generalize mixedZ (c / 36) = x
    have x0 : 0 ≤ x / 6 % 4 := Int.emod_nonneg _ (by decide)
    have x1 : x / 6 % 4 < 4 := Int.emod_lt_of_pos _ (by decide)
    refine ⟨_, rfl, _, _, rfl, rfl, ⟨by decide, by decide⟩, _, _, rfl, rfl, (by show (0 : Int) < _; decide), _, _, rfl, rfl, 1 + x / 6 % 4, rfl, by omega, by omega, ?_⟩
    refine comp_range (lo := 0) (n := (1 + x / 6 % 4).toNat) (fun i ys H' => H' = H1 ∧ ∃ zs : List Str, ys = zs.map V.str ∧ zs.length = i ∧ ∀ z ∈ zs, z ∈ ws) (by omega) ⟨rfl, [], rfl, rfl, fun _ h => nomatch h⟩ (fun i ys H' _ h => by obtain ⟨_, zs, rfl, hl, _⟩ := h; rw [List.length_map]; omega) ?_ ?_
    · rintro i ys H' hi ⟨rfl, zs, rfl, hl, hz⟩ KY hK
      obtain ⟨y, hy, ey⟩ := at_str (ws := ws) (k := x / (7 * (0 + (i : Int)) + 1) % 10) (Int.emod_nonneg _ (by decide)) (by rw [hw]; exact Int.emod_lt_of_pos _ (by decide))
      refine ⟨_, rfl, _, rfl, _, rfl, _, _, rfl, rfl, .inl ⟨by decide, by decide⟩, _, _, rfl, rfl, _, _, rfl, rfl, ⟨by omega, by omega⟩, _, _, rfl, rfl, (by show (0 : Int) < _; decide), m, _, _, _, rfl, rfl, g1.seq hS, ey, ?_⟩
      refine hK _ _ ⟨rfl, zs ++ [y], by rw [List.map_append] <;> rfl, by rw [List.length_append, hl] <;> rfl, fun z hzm => ?_⟩
      rcases List.mem_append.mp hzm with j | j
      · exact hz z j
      · rw [List.mem_singleton.mp j]; exact hy
    rintro ys H' ⟨rfl, zs, rfl, hl, hz⟩ p2 hp2
    have g2 := same_new hp2 (.lst (zs.map V.str))
    refine ⟨p2, _, rfl, .inl ⟨SqL.of upd_same, fun p3 hp3 => ?_⟩⟩
    have g3 := same_new hp3 (.tup (zs.map V.str))
    have e3 : upd (upd H' p2 (.lst (zs.map V.str))) p3 (.tup (zs.map V.str)) p3 = some (.tup (zs.map V.str)) := upd_same
    have gA := (g1.trans g2).trans g3
    generalize upd (upd H' p2 (.lst (zs.map V.str))) p3 (.tup (zs.map V.str)) = H3 at e3 gA ⊢
    obtain ⟨wl, last, hz2⟩ : ∃ wl last, zs = wl ++ [last] := by
      rcases List.eq_nil_or_concat zs with z | ⟨l', y, z⟩
      · rw [z] at hl
        have hl : 0 = (1 + x / 6 % 4).toNat := hl
        omega
      · exact ⟨l', y, by rw [z, List.concat_eq_append]⟩
    have lastm : last ∈ zs := by rw [hz2]; exact List.mem_append_right _ List.mem_cons_self
    have hat : atI (zs.map V.str) (-1) = some (.str last) := by rw [hz2, List.map_append]; exact atI_last _ _
    have f0 : 0 ≤ x % 6 := Int.emod_nonneg _ (by decide)
    have f1 : x % 6 < 6 := Int.emod_lt_of_pos _ (by decide)
    refine ⟨_, rfl, 1, rfl, p3, _, _, _, rfl, rfl, SqT.of e3, hat, _, rfl, _, rfl, _, _, rfl, rfl, (by show (0 : Int) < _; decide), last, x, _, rfl, hwd last (hz last lastm), by omega, by omega, fun bs bv H4 g4 hbv hbok => ?_⟩
    refine ⟨_, rfl, _, rfl, _, rfl, _, rfl, _, rfl, _, rfl, _, rfl, x, m, ws, k, rfl, (gA.trans g4).seq hS, hw, by omega, by omega, fun ms r H5 g5 h5 lz mz => ⟨(by show 6 ≤ sizeLine; decide), fun p9 hp9 => ?_⟩⟩
    have g9 := same_new hp9 (.tup [.str "tell", .int n, .str sc, .ref p3, bv, .ref r])
    refine q (.tell n sc zs bs ms) _ _ ((gA.trans g4).trans (g5.trans g9)) ⟨p9, .ref p3, bv, .ref r, rfl, upd_same, ⟨p3, rfl, g9 _ _ (g5 _ _ (g4 _ _ e3))⟩, bR_mono hbv (g5.trans g9), r, rfl, g9 _ _ h5⟩ (.inr ⟨_, _, _, _, rfl, ⟨hsc0, by omega, fun z hzz => hwd z (hz z hzz), ⟨wl, last, hz2, hbok⟩, ⟨by omega, by omega, fun z hzz => hwd z (mz z hzz)⟩⟩⟩)
end
end D
namespace D
open PySem L2
def numsL (ts : List Th) : List Int := (ts.flatMap Th.ord).map Th.num
theorem numsL_app (a b : List Th) : numsL (a ++ b) = numsL a ++ numsL b := by
  unfold numsL
  rw [List.flatMap_append, List.map_append]
theorem numsL_part (n : Int) (ts : List Th) : numsL [.part n (F.of ts)] = n :: numsL ts := by
  unfold numsL
  show ((Th.part n (F.of ts) :: (F.of ts).ord) ++ []).map Th.num = _
  rw [List.append_nil, List.map_cons, ord_flat, ths_of] <;> rfl
theorem numsL_leaf {n : Int} {t : Th} (h : Leaf n t) : numsL [t] = [n] := by
  rcases h with ⟨ws, rfl, _⟩ | ⟨sc, ph, bs, ms, rfl, _⟩ <;> rfl
theorem numsL_len (ts : List Th) : ts.length ≤ (numsL ts).length := by
  induction ts with
  | nil => exact Nat.zero_le _
  | cons t r ih =>
    rw [show t :: r = [t] ++ r from rfl, numsL_app, List.length_append, List.length_append]
    have h1 : 1 ≤ (numsL [t]).length := by
      unfold numsL
      show 1 ≤ (((t :: t.sub.ord) ++ []).map Th.num).length
      rw [List.length_map, List.length_append, List.length_cons]
      omega
    show 1 + r.length ≤ _
    omega
theorem dep_cons (t : Th) (f : F) : (t.cons f).dep = max (t.cons .nil).dep f.dep := by
  cases t with
  | say n ws => show f.dep = max 0 f.dep; omega
  | tell n sc ph bs ms => show f.dep = max 0 f.dep; omega
  | part n i => show max (i.dep + 1) f.dep = max (max (i.dep + 1) 0) f.dep; omega
theorem dep_app : ∀ (a b : List Th), (F.of (a ++ b)).dep = max (F.of a).dep (F.of b).dep
  | [], b => by show (F.of b).dep = max 0 _; omega
  | t :: r, b => by
    show (t.cons (F.of (r ++ b))).dep = max (t.cons (F.of r)).dep _
    rw [dep_cons, dep_cons t (F.of r), dep_app r b]
    omega
theorem dep_leaf {n : Int} {t : Th} (h : Leaf n t) : (F.of [t]).dep = 0 := by
  rcases h with ⟨ws, rfl, _⟩ | ⟨sc, ph, bs, ms, rfl, _⟩ <;> rfl
def TOk : Th → Prop
  | .say _ ws => Rw ws
  | .tell _ sc ph bs ms => TlOk sc ph bs ms
  | .part _ _ => True
theorem leaf_ok {n : Int} {t : Th} (h : Leaf n t) : ∀ s ∈ [t].flatMap Th.ord, TOk s := by
  intro s hs
  rcases h with ⟨ws, rfl, h⟩ | ⟨sc, ph, bs, ms, rfl, h⟩
  · have e : s = .say n ws := by simpa [Th.ord, Th.sub, F.ord] using hs
    rw [e]; exact h
  · have e : s = .tell n sc ph bs ms := by simpa [Th.ord, Th.sub, F.ord] using hs
    rw [e]; exact h
def allN (nums : List Int) (tss : List (List Th)) : List Int := tss.flatMap numsL ++ nums.tail
structure Held (ns nums : List Int) (tss : List (List Th)) (m i : Nat) : Prop where
  len : nums.length = tss.length
  top : ∃ r, nums = 0 :: r
  most : nums.length ≤ 9
  dep : ∀ d ts, tss[d]? = some ts → (F.of ts).dep + d ≤ 8
  perm : (allN nums tss).Perm ((List.range m).map fun j => numZ ns (j : Nat))
  zero : m = 0 → i = 0 ∧ nums.length = 1
  mi : m ≤ i
  ok : ∀ ts ∈ tss, ∀ t ∈ ts.flatMap Th.ord, TOk t
theorem Held.size {ns nums : List Int} {tss : List (List Th)} {m i : Nat} (h : Held ns nums tss m i) : ∀ ts ∈ tss, ts.length ≤ i := fun ts ht => by
  have h1 := h.perm.length_eq
  rw [List.length_map, List.length_range] at h1
  have h2 : (numsL ts).length ≤ (allN nums tss).length := by
    unfold allN
    rw [List.length_append]
    have : (numsL ts).Sublist (tss.flatMap numsL) := List.sublist_flatten_of_mem (List.mem_map.mpr ⟨ts, ht, rfl⟩)
    have := this.length_le
    omega
  have h3 := numsL_len ts
  have := h.mi
  omega
theorem held_start (ns : List Int) : Held ns [0] [[]] 0 0 := by
  refine ⟨rfl, ⟨[], rfl⟩, by decide, fun d ts h => ?_, .refl _, fun _ => ⟨rfl, rfl⟩, Nat.le_refl _, fun ts hts t ht => by rw [List.mem_singleton.mp hts] at ht; exact nomatch ht⟩
  cases d with
  | zero =>
    cases (Option.some.inj h)
    exact Nat.zero_le _
  | succ d => cases h
theorem Held.ended {ns nums : List Int} {n : Int} {tss : List (List Th)} {ts1 ts2 : List Th} {m i j : Nat} (h : Held ns (nums ++ [n]) (tss ++ [ts1, ts2]) m i) (hij : i ≤ j) : Held ns nums (tss ++ [ts1 ++ [.part n (F.of ts2)]]) m j := by
  have hl := h.len
  rw [List.length_append, List.length_append] at hl
  have hl' : nums.length + 1 = tss.length + 2 := hl
  obtain ⟨r, hr⟩ : ∃ r, nums = 0 :: r := by
    obtain ⟨r, e⟩ := h.top
    cases nums with
    | nil => simp at hl'
    | cons x y =>
      have : x = 0 := (List.cons.inj e).1
      exact ⟨y, by rw [this]⟩
  have hm := h.most
  rw [List.length_append, List.length_singleton] at hm
  refine ⟨?_, ⟨r, hr⟩, by omega, fun d ts hd => ?_, ?_, fun z => ?_, Nat.le_trans h.mi hij, fun ts hts t ht => ?_⟩
  · rw [List.length_append, List.length_singleton]
    omega
  · by_cases hd' : d < tss.length
    · rw [List.getElem?_append_left hd'] at hd
      exact h.dep d ts (by rw [List.getElem?_append_left hd']; exact hd)
    · rw [List.getElem?_append_right (by omega)] at hd
      have hd0 : d = tss.length := by
        by_cases e : d - tss.length = 0
        · omega
        · obtain ⟨k, hk⟩ : ∃ k, d - tss.length = k + 1 := ⟨d - tss.length - 1, by omega⟩
          rw [hk] at hd
          cases hd
      subst hd0
      rw [Nat.sub_self] at hd
      have e : ts1 ++ [Th.part n (F.of ts2)] = ts := Option.some.inj hd
      subst e
      have d1 := h.dep tss.length ts1 (by rw [List.getElem?_append_right (Nat.le_refl _), Nat.sub_self] <;> rfl)
      have d2 := h.dep (tss.length + 1) ts2 (by rw [List.getElem?_append_right (by omega), show tss.length + 1 - tss.length = 1 by omega] <;> rfl)
      rw [dep_app]
      have : (F.of [Th.part n (F.of ts2)]).dep = (F.of ts2).dep + 1 := by show max ((F.of ts2).dep + 1) 0 = _; omega
      omega
  · refine .trans ?_ h.perm
    subst hr
    unfold allN
    rw [List.flatMap_append, List.flatMap_append]
    show (tss.flatMap numsL ++ (numsL (ts1 ++ [Th.part n (F.of ts2)]) ++ []) ++ r).Perm (tss.flatMap numsL ++ (numsL ts1 ++ (numsL ts2 ++ [])) ++ (r ++ [n]))
    rw [numsL_app, numsL_part, List.perm_iff_count]
    intro x
    simp only [List.count_append, List.count_cons, List.count_nil]
    omega
  · have := (h.zero z).2
    rw [List.length_append, List.length_singleton] at this
    subst hr
    rw [List.length_cons] at this
    omega
  · rcases List.mem_append.mp hts with z | z
    · exact h.ok ts (List.mem_append_left _ z) t ht
    · rw [List.mem_singleton.mp z, List.flatMap_append] at ht
      rcases List.mem_append.mp ht with y | y
      · exact h.ok ts1 (by simp) t y
      · have y : t ∈ (Th.part n (F.of ts2) :: (F.of ts2).ord) ++ [] := y
        rw [List.append_nil] at y
        rcases List.mem_cons.mp y with e | e
        · rw [e]; trivial
        · rw [ord_flat, ths_of] at e
          exact h.ok ts2 (by simp) t e
theorem range_succ_map (ns : List Int) (m : Nat) : ((List.range (m + 1)).map fun j => numZ ns (j : Nat)) = ((List.range m).map fun j => numZ ns (j : Nat)) ++ [numZ ns (m : Nat)] := by
  rw [List.range_succ, List.map_append] <;> rfl
theorem Held.begun {ns nums : List Int} {tss : List (List Th)} {m i : Nat} (h : Held ns nums tss m i) (h8 : nums.length ≤ 8) : Held ns (nums ++ [numZ ns (m : Nat)]) (tss ++ [[]]) (m + 1) (i + 1) := by
  obtain ⟨r, rfl⟩ := h.top
  refine ⟨by rw [List.length_append, List.length_append, h.len] <;> rfl, ⟨r ++ [numZ ns (m : Nat)], rfl⟩, by rw [List.length_append, List.length_singleton]; omega, fun d ts hd => ?_, ?_, fun z => absurd z (by omega), by have := h.mi; omega, fun ts hts t ht => ?_⟩
  rotate_left 2
  · rcases List.mem_append.mp hts with z | z
    · exact h.ok ts z t ht
    · rw [List.mem_singleton.mp z] at ht
      exact nomatch ht
  · by_cases hd' : d < tss.length
    · rw [List.getElem?_append_left hd'] at hd
      exact h.dep d ts hd
    · rw [List.getElem?_append_right (by omega)] at hd
      have hd0 : d = tss.length := by
        by_cases e : d - tss.length = 0
        · omega
        · obtain ⟨k, hk⟩ : ∃ k, d - tss.length = k + 1 := ⟨d - tss.length - 1, by omega⟩
          rw [hk] at hd
          cases hd
      subst hd0
      rw [Nat.sub_self] at hd
      have e : [] = ts := Option.some.inj hd
      subst e
      have := h.len
      show 0 + _ ≤ 8
      omega
  · rw [range_succ_map]
    refine .trans ?_ (h.perm.append_right [numZ ns (m : Nat)])
    unfold allN
    rw [List.flatMap_append]
    show (tss.flatMap numsL ++ [] ++ (r ++ [numZ ns (m : Nat)])).Perm (tss.flatMap numsL ++ r ++ [numZ ns (m : Nat)])
    rw [List.append_nil, List.append_assoc]
theorem Held.put {ns nums : List Int} {tss : List (List Th)} {ts : List Th} {t : Th} {m i : Nat} (h : Held ns nums (tss ++ [ts]) m i) (ht : Leaf (numZ ns (m : Nat)) t) : Held ns nums (tss ++ [ts ++ [t]]) (m + 1) (i + 1) := by
  have hl := h.len
  rw [List.length_append, List.length_singleton] at hl
  refine ⟨by rw [List.length_append, List.length_singleton]; exact hl, h.top, h.most, fun d us hd => ?_, ?_, fun z => absurd z (by omega), by have := h.mi; omega, fun us hus s hs => ?_⟩
  rotate_left 2
  · rcases List.mem_append.mp hus with z | z
    · exact h.ok us (List.mem_append_left _ z) s hs
    · rw [List.mem_singleton.mp z, List.flatMap_append] at hs
      rcases List.mem_append.mp hs with y | y
      · exact h.ok ts (by simp) s y
      · exact leaf_ok ht s y
  · by_cases hd' : d < tss.length
    · rw [List.getElem?_append_left hd'] at hd
      exact h.dep d us (by rw [List.getElem?_append_left hd']; exact hd)
    · rw [List.getElem?_append_right (by omega)] at hd
      have hd0 : d = tss.length := by
        by_cases e : d - tss.length = 0
        · omega
        · obtain ⟨k, hk⟩ : ∃ k, d - tss.length = k + 1 := ⟨d - tss.length - 1, by omega⟩
          rw [hk] at hd
          cases hd
      subst hd0
      rw [Nat.sub_self] at hd
      have e : ts ++ [t] = us := Option.some.inj hd
      subst e
      have d1 := h.dep tss.length ts (by rw [List.getElem?_append_right (Nat.le_refl _), Nat.sub_self] <;> rfl)
      rw [dep_app, dep_leaf ht]
      omega
  · rw [range_succ_map]
    refine .trans ?_ (h.perm.append_right [numZ ns (m : Nat)])
    unfold allN
    rw [List.flatMap_append, List.flatMap_append]
    show (tss.flatMap numsL ++ (numsL (ts ++ [t]) ++ []) ++ nums.tail).Perm (tss.flatMap numsL ++ (numsL ts ++ []) ++ nums.tail ++ [numZ ns (m : Nat)])
    rw [numsL_app, numsL_leaf ht, List.perm_iff_count]
    intro x
    simp only [List.count_append, List.count_cons, List.count_nil]
    omega
structure DocOk (ns : List Int) (f : F) (m : Nat) : Prop where
  dep : f.dep ≤ 8
  perm : (f.ord.map Th.num).Perm ((List.range m).map fun j => numZ ns (j : Nat))
  one : 1 ≤ m
  ok : ∀ t ∈ f.ord, TOk t
theorem Held.doc {ns nums : List Int} {ts : List Th} {m i : Nat} (h : Held ns nums [ts] m i) (hi : 1 ≤ i) : DocOk ns (F.of ts) m := by
  obtain ⟨r, hr⟩ := h.top
  have hl := h.len
  rw [hr, List.length_cons] at hl
  have hr0 : r = [] := List.eq_nil_of_length_eq_zero (by simpa using hl)
  subst hr0
  refine ⟨h.dep 0 ts rfl, ?_, ?_, fun t ht => by rw [ord_flat, ths_of] at ht; exact h.ok ts (by simp) t ht⟩
  · have p := h.perm
    rw [hr] at p
    unfold allN at p
    rw [ord_flat, ths_of]
    have e : [ts].flatMap numsL ++ List.tail [0] = (ts.flatMap Th.ord).map Th.num := by
      show (numsL ts ++ []) ++ [] = _
      rw [List.append_nil, List.append_nil] <;> rfl
    rw [e] at p
    exact p
  · by_cases z : m = 0
    · have := (h.zero z).1
      omega
    · omega
end D
namespace D
open PySem L2
def spDoc (K : PySem.W.Frag) : Sp := fun vs H Q _ => ∃ (a : Addr) (ns : List Int) (mo : Int), vs = [.ref a, .int mo] ∧ SqL K H a (ns.map V.int) ∧ ns.length ≤ 63 ∧ 0 ≤ mo ∧ mo ≤ 59 ∧
  ∀ (f : F) (m : Nat) v H', Same H H' → partR H' 0 f v → DocOk ns f m → m ≤ max 6 mo.toNat → Q v H'
theorem snoc_of {α : Type} {l : List α} (h : l ≠ []) : ∃ l' x, l = l' ++ [x] := by
  rcases List.eq_nil_or_concat l with z | ⟨l', x, z⟩
  · exact absurd z h
  · exact ⟨l', x, by rw [z, List.concat_eq_append]⟩
theorem snoc2_of {α : Type} {l : List α} (h : 2 ≤ l.length) : ∃ l' x y, l = l' ++ [x, y] := by
  obtain ⟨l1, y, rfl⟩ := snoc_of (l := l) (by intro z; rw [z] at h; simp at h)
  rw [List.length_append, List.length_singleton] at h
  obtain ⟨l2, x, rfl⟩ := snoc_of (l := l1) (by intro z; rw [z] at h; simp at h)
  exact ⟨l2, x, y, by simp⟩
section
variable {P : Program} {w : World} {K : PySem.W.Frag} {mg : Str → Option Value} {base : Heap} {f : Addr} {fd : FuncData}
abbrev ND : List Str := ["_law_script", "_law_most", "_law_menu_here", "_law_low", "_law_numbers", "_law_inner", "_law_many", "_law_k", "_law_cell_here", "_law_size"]
theorem scDoc : FnScope ND ["_law_script", "_law_most"] (defScope s_l_document) := ⟨rfl, rfl, rfl, by decide +kernel, rfl, by decide +kernel, by decide +kernel⟩
theorem Stk.begun {H0 H : Hp} {np ip : Addr} {nums : List Int} {tss : List (List Th)} {ls : List Addr} (S : Stk H0 H np ip nums tss ls) {n : Int} {l : Addr} (hl : upd H np (.lst ((nums ++ [n]).map V.int)) l = none) :
    Stk H0 (upd (upd (upd H np (.lst ((nums ++ [n]).map V.int))) l (.lst [])) ip (.lst ((ls ++ [l]).map V.ref))) np ip (nums ++ [n]) (tss ++ [[]]) (ls ++ [l]) := by
  have lp : l ≠ np := fun e => by rw [e, upd_same] at hl; cases hl
  have lH : H l = none := by rw [upd_ne lp] at hl; exact hl
  have li : l ≠ ip := (ne_of_none S.hi lH).symm
  have l0 : H0 l = none := S.same.free lH
  have nl : l ∉ ls := fun z => by
    obtain ⟨i, hi⟩ := List.mem_iff_getElem?.mp z
    obtain ⟨ts, _, xs, h1, _⟩ := paired_get S.lv hi
    rw [lH] at h1
    cases h1
  have g1 : TSame H (upd H np (.lst ((nums ++ [n]).map V.int))) := TSame.lst S.hn
  have g2 : TSame (upd H np (.lst ((nums ++ [n]).map V.int))) (upd (upd H np (.lst ((nums ++ [n]).map V.int))) l (.lst [])) := TSame.new hl
  have hi2 : upd (upd H np (.lst ((nums ++ [n]).map V.int))) l (.lst []) ip = some (.lst (ls.map V.ref)) := by rw [upd_ne li.symm, upd_ne S.ni.symm]; exact S.hi
  have g3 := TSame.lst (o := .lst ((ls ++ [l]).map V.ref)) hi2
  refine ⟨keep_upd S.fi (keep_upd l0 (keep_upd S.fn S.same _) _) _, ?_, upd_same, ?_, ?_, S.ni, ?_, ?_, S.fn, S.fi, ?_⟩
  · rw [upd_ne S.ni, upd_ne lp.symm, upd_same]
  · refine paired_app (lvls_keep ((g1.trans g2).trans g3) S.lv fun b hb o e => ?_) (.cons ⟨[], ?_, .nil⟩ .nil)
    · rw [upd_ne (fun (z : b = ip) => S.ii (z ▸ hb)), upd_ne (fun (z : b = l) => nl (z ▸ hb)), upd_ne (fun (z : b = np) => S.nn (z ▸ hb))]
      exact e
    · rw [upd_ne li, upd_same]
  · rw [List.nodup_append]
    refine ⟨S.nd, by simp, fun x hx y hy z => ?_⟩
    rw [List.mem_singleton.mp hy] at z
    exact nl (z ▸ hx)
  · intro z
    rcases List.mem_append.mp z with z | z
    · exact S.nn z
    · exact lp (List.mem_singleton.mp z).symm
  · intro z
    rcases List.mem_append.mp z with z | z
    · exact S.ii z
    · exact li (List.mem_singleton.mp z).symm
  · intro b hb
    rcases List.mem_append.mp hb with z | z
    · exact S.fl b z
    · rw [List.mem_singleton.mp z]; exact l0
theorem Stk.put {H0 H H1 : Hp} {np ip : Addr} {nums : List Int} {tss : List (List Th)} {ts : List Th} {ls : List Addr} {l : Addr} {xs : List V} {t : Th} {v : V} (S : Stk H0 H np ip nums (tss ++ [ts]) (ls ++ [l])) (g : Same H H1) (hl : H l = some (.lst xs)) (hx : thsR H ts xs) (ht : thR H1 t v) :
    Stk H0 (upd H1 l (.lst (xs ++ [v]))) np ip nums (tss ++ [ts ++ [t]]) (ls ++ [l]) := by
  have lm : l ∈ ls ++ [l] := List.mem_append_right _ List.mem_cons_self
  have np' : np ≠ l := fun e => S.nn (e ▸ lm)
  have ip' : ip ≠ l := fun e => S.ii (e ▸ lm)
  have nd := S.nd
  rw [List.nodup_append] at nd
  have nl : l ∉ ls := fun z => nd.2.2 l z l List.mem_cons_self rfl
  have hl1 := g _ _ hl
  have g2 : TSame H1 (upd H1 l (.lst (xs ++ [v]))) := TSame.lst hl1
  obtain ⟨m1, m2, e, p1, p2⟩ := paired_split S.lv
  have hm : m1.length = ls.length ∧ m2.length = 1 := by
    have := paired_len p2
    have e' := congrArg List.length e
    rw [List.length_append, List.length_append, List.length_singleton] at e'
    have : m2.length = 1 := this.symm
    omega
  obtain ⟨e1, e2⟩ := List.append_inj e hm.1.symm
  subst e1
  refine ⟨keep_upd (S.fl l lm) (S.same.trans g) _, ?_, ?_, ?_, S.nd, S.ni, S.nn, S.ii, S.fn, S.fi, S.fl⟩
  · rw [upd_ne np']; exact g _ _ S.hn
  · rw [upd_ne ip']; exact g _ _ S.hi
  · refine paired_app (lvls_keep (g.t.trans g2) p1 fun b hb o e => ?_) (.cons ⟨_, upd_same, paired_app ((hx.mono g.t).mono g2) (.cons (ht.mono g2) .nil)⟩ .nil)
    rw [upd_ne (fun (z : b = l) => nl (z ▸ hb))]
    exact g _ _ e
set_option maxHeartbeats 8000000 in
theorem ok_doc (F : Fun K "_law_document" "_law_document" s_l_document f fd) (T : Nm mg) (GC : Def P w K mg base CX0 1 "_law_cell" ["_law_script", "_law_k"] (spCell K)) (GM : Def P w K mg base CX0 2 "_law_menu" ["_law_script"] (spMenu K)) (GW : Def P w K mg base CX0 1 "_law_plain_words" ["_law_menu_here", "_law_cell_here"] spPlain) (GN : Def P w K mg base CX0 2 "_law_number" ["_law_script", "_law_k"] (spNum K))
    (GT : Def P w K mg base CX0 3 "_law_thing" ["_law_cell_here", "_law_number_here", "_law_menu_here", "_law_size"] (spThing K)) (GE : Def P w K mg base CX0 1 "_law_ended" ["_law_numbers", "_law_inner"] spEnded) : FnOk P w K mg base CX0 4 f fd ["_law_script", "_law_most"] (spDoc K) := by
  refine F.ok scDoc (fun vs H Q E h => ?_) (fun cdv A outer s H vs Q E hr h => ?_)
  · obtain ⟨a, ns, mo, rfl, _⟩ := h
    rfl
  obtain ⟨a, ns, mo, rfl, hS, h63, o0, o1, q⟩ := h
  refine ⟨_, pss_cons (ps_set (i := 2) scDoc.nd rfl (Or.inl rfl) (pe_def GW (hr.mono (by decide)) (pa_cons (pe_def GM (hr.mono (by decide)) (pa_cons (pv 0) pa_nil)) (pa_cons (pe_op op_fdiv (pe_def GC (hr.mono (by decide)) (pa_cons (pv 0) (pa_cons pe_int pa_nil))) pe_int) pa_nil))))
    (pss_cons (ps_set (i := 3) scDoc.nd rfl (Or.inl rfl) (pe_op op_sub pe_int (pe_op op_mul pe_int (pe_callTy call_int1 rfl T.int PyProof.Rows.boot_int (pa_cons (pe_cmpR op_eq (pe_op op_mod (pe_def GC (hr.mono (by decide)) (pa_cons (pv 0) (pa_cons pe_int pa_nil))) pe_int) pe_int (nomark _)) pa_nil)))))
    (pss_cons (ps_set (i := 4) scDoc.nd rfl (Or.inl rfl) (pe_lst (pa_cons pe_int pa_nil)))
    (pss_cons (ps_set (i := 5) scDoc.nd rfl (Or.inl rfl) (pe_lst (pa_cons (pe_lst pa_nil) pa_nil)))
    (pss_cons (ps_set (i := 6) scDoc.nd rfl (Or.inl rfl) pe_int)
    (pss_cons (ps_for PassesOwn.never rfl (pi_range2 rfl T.range (pa_cons pe_int (pa_cons (pe_callB (call_max2 rfl) rfl T.mx PyProof.Rows.boot_max (pa_cons pe_int (pa_cons (pe_callB (call_min2 rfl) rfl T.mn PyProof.Rows.boot_min (pa_cons (pe_op op_add pe_int (pv 1)) (pa_cons (pe_callB call_len_seq rfl T.len PySem.boot_len (pa_cons (pv 0) pa_nil)) pa_nil))) pa_nil))) pa_nil))) (pg_name (i := 7) scDoc.nd rfl (Or.inl rfl))
      (pss_cons (ps_set (i := 8) scDoc.nd rfl (Or.inl rfl) (pe_def GC (hr.mono (by decide)) (pa_cons (pv 0) (pa_cons (pv 7) pa_nil))))
      (pss_one (ps_if (PW.pt (pw_and (pt_cmpR op_eq (pe_op op_mod (pv 8) pe_int) pe_int (nomark _)) (pw_and1 (pt_cmpR op_gt (pe_callB call_len_seq rfl T.len PySem.boot_len (pa_cons (pv 4) pa_nil)) pe_int (nomark _)))))
        (pss_one (ps_expr (pe_def GE (hr.mono (by decide)) (pa_cons (pv 4) (pa_cons (pv 5) pa_nil)))))
        (pss_one (ps_if (PW.pt (pw_and (pt_chain op_le op_le (pv 3) (pe_op op_mod (pv 8) pe_int) pe_int) (pw_and1 (pt_cmpR op_le (pe_callB call_len_seq rfl T.len PySem.boot_len (pa_cons (pv 4) pa_nil)) pe_int (nomark _)))))
          (pss_cons (ps_expr (pe_bm PySem.F.plainAttrs_list PySem.F.slot_list_append PySem.F.type_list_append mt_append (pv 4) (pa_cons (pe_def GN (hr.mono (by decide)) (pa_cons (pv 0) (pa_cons (pv 6) pa_nil))) pa_nil)))
          (pss_cons (ps_expr (pe_bm PySem.F.plainAttrs_list PySem.F.slot_list_append PySem.F.type_list_append mt_append (pv 5) (pa_cons (pe_lst pa_nil) pa_nil)))
          (pss_one (ps_set (i := 6) scDoc.nd rfl (Or.inl rfl) (pe_op op_add (pv 6) pe_int)))))
          (pss_cons (ps_set (i := 9) scDoc.nd rfl (Or.inl rfl) (pe_op op_add pe_int (pe_op op_mod (pe_op op_fdiv (pv 8) pe_int) pe_int)))
          (pss_cons (ps_if (pt_cmpR op_eq (pv 7) (pe_op op_add pe_int (pe_op op_mod (pe_op op_fdiv (pe_def GC (hr.mono (by decide)) (pa_cons (pv 0) (pa_cons pe_int pa_nil))) pe_int) pe_int)) (nomark _)) (pss_one (ps_set (i := 9) scDoc.nd rfl (Or.inl rfl) (pe_op op_add pe_int (pe_op op_fdiv (pe_op op_add (pv 9) pe_int) pe_int)))) pss_nil)
          (pss_cons (ps_expr (pe_bm PySem.F.plainAttrs_list PySem.F.slot_list_append PySem.F.type_list_append mt_append (pe_ix ix_list (pv 5) (pe_un un_neg pe_int) (fun _ _ => rfl)) (pa_cons (pe_def GT hr (pa_cons (pe_op op_fdiv (pv 8) pe_int) (pa_cons (pe_def GN (hr.mono (by decide)) (pa_cons (pv 0) (pa_cons (pv 6) pa_nil))) (pa_cons (pv 2) (pa_cons (pv 9) pa_nil))))) pa_nil)))
          (pss_one (ps_set (i := 6) scDoc.nd rfl (Or.inl rfl) (pe_op op_add (pv 6) pe_int))))))))))))
    (pss_cons (ps_while PassesOwn.never (pt_cmpR op_gt (pe_callB call_len_seq rfl T.len PySem.boot_len (pa_cons (pv 4) pa_nil)) pe_int (nomark _)) (pss_one (ps_expr (pe_def GE (hr.mono (by decide)) (pa_cons (pv 4) (pa_cons (pv 5) pa_nil))))))
    (pss_one (ps_ret (pe_tup (pa_cons pe_str (pa_cons pe_int (pa_cons (pe_callTy call_tuple_of rfl T.tuple PyProof.Rows.boot_tuple (pa_cons (pe_ix ix_list (pv 5) pe_int (fun _ _ => rfl)) pa_nil)) pa_nil)))))))))))), ?_⟩
  have hb := big
  refine ⟨_, rfl, a, ns, rfl, hS, h63, fun ws0 me H00 g00 hme0 fme hwl0 hwd0 => ?_⟩
  refine ⟨_, rfl, a, ns, 2, rfl, g00.seq hS, h63, by decide, by decide, _, _, rfl, rfl, ⟨by decide, by decide⟩, me, ws0, _, rfl, hme0, hwl0, hwd0, fun ws H0 hme kp hwl hwd => ?_⟩
  have g0 : Same H H0 := fun b o e => kp b o (ne_of_none e fme) (g00 _ _ e)
  refine ⟨_, rfl, a, ns, 3, rfl, g0.seq hS, h63, by decide, by decide, _, _, rfl, rfl, (by show (0 : Int) < _; decide), rfl, .inr ⟨_, rfl, _, _, rfl, rfl, .inl ⟨by decide, by decide⟩, _, _, rfl, rfl, ?_⟩⟩
  dsimp only
  generalize (5 - 2 * (if decide (V.int (cellZ ns 3 % 8) = V.int 1) = true then (1 : Int) else 0)) = low
  refine ⟨(by show 1 ≤ sizeLine; decide), fun np hnp => ?_⟩
  refine ⟨(by show 0 ≤ sizeLine; decide), fun l0 hl0 => ⟨(by show 1 ≤ sizeLine; decide), fun ip hip => ?_⟩⟩
  have S0 : Stk H0 (upd (upd (upd H0 np (.lst [.int 0])) l0 (.lst [])) ip (.lst [.ref l0])) np ip [0] [[]] [l0] := by
    have a1 : l0 ≠ np := fun e => by rw [e, upd_same] at hl0; cases hl0
    have a2 : ip ≠ l0 := fun e => by rw [e, upd_same] at hip; cases hip
    have a3 : ip ≠ np := fun e => by rw [e, upd_ne a1.symm, upd_same] at hip; cases hip
    have f1 : H0 l0 = none := by rw [upd_ne a1] at hl0; exact hl0
    have f2 : H0 ip = none := by rw [upd_ne a2, upd_ne a3] at hip; exact hip
    refine ⟨keep_upd f2 (keep_upd f1 (keep_upd hnp (Same.refl _) _) _) _, ?_, upd_same, .cons ⟨[], ?_, .nil⟩ .nil, by simp, a3.symm, by simpa using a1.symm, by simpa using a2, hnp, f2, fun l hl => ?_⟩
    · rw [upd_ne a3.symm, upd_ne a1.symm, upd_same] <;> rfl
    · rw [upd_ne a2.symm, upd_same]
    · rw [List.mem_singleton.mp hl]; exact f1
  generalize upd (upd (upd H0 np (.lst [.int 0])) l0 (.lst [])) ip (.lst [.ref l0]) = HS at S0 ⊢
  have hl63 : (ns.map V.int).length = ns.length := List.length_map _
  refine ⟨_, rfl, _, _, rfl, rfl, _, rfl, a, _, rfl, .inl ((g0.trans S0.same).seq hS), _, _, rfl, _, _, rfl, 4, _, rfl, ?_⟩
  rw [hl63]
  have c1 : 10 ≤ (if (if (ns.length : Int) < 4 + mo then (ns.length : Int) else 4 + mo) > 10 then (if (ns.length : Int) < 4 + mo then (ns.length : Int) else 4 + mo) else 10) := by split <;> split <;> omega
  have c2 : (if (if (ns.length : Int) < 4 + mo then (ns.length : Int) else 4 + mo) > 10 then (if (ns.length : Int) < 4 + mo then (ns.length : Int) else 4 + mo) else 10) ≤ 63 := by split <;> split <;> omega
  have c3 : (if (if (ns.length : Int) < 4 + mo then (ns.length : Int) else 4 + mo) > 10 then (if (ns.length : Int) < 4 + mo then (ns.length : Int) else 4 + mo) else 10) - 4 ≤ max 6 mo := by split <;> split <;> omega
  generalize (if (if (ns.length : Int) < 4 + mo then (ns.length : Int) else 4 + mo) > 10 then (if (ns.length : Int) < 4 + mo then (ns.length : Int) else 4 + mo) else 10) = hi at c1 c2 c3 ⊢
  refine ⟨⟨by omega, by omega, by omega, by omega⟩, ?_⟩
  refine for_range (lo := 4) (n := (hi - 4).toNat) (fun i σ' H' => ∃ (nums : List Int) (tss : List (List Th)) (ls : List Addr) (m : Nat) (u7 u8 u9 : Option V), σ' = [some (.ref a), some (.int mo), some (.ref me), some (.int low), some (.ref np), some (.ref ip), some (.int (m : Nat)), u7, u8, u9] ∧ Stk H0 H' np ip nums tss ls ∧ Held ns nums tss m i) ?_ ?_ ?_
  · exact ⟨[0], [[]], [l0], 0, none, none, none, rfl, S0, held_start ns⟩
  · rintro i σ' H' hin ⟨nums, tss, ls, m, u7, u8, u9, rfl, S, Hd⟩
    have gS := g0.trans S.same
    have hnl : (nums.map V.int).length = nums.length := List.length_map _
    have hmi := Hd.mi
    have hm9 := Hd.most
    have hi63 : i < 63 := by omega
    refine ⟨_, rfl, _, rfl, a, ns, _, rfl, gS.seq hS, h63, by omega, by omega, ?_⟩
    generalize cellZ ns (4 + (i : Int)) = c
    have rest : ∀ (t : TS) (R : Ends), R.nx = (fun σ' H' => ∃ (nums : List Int) (tss : List (List Th)) (ls : List Addr) (m : Nat) (u7 u8 u9 : Option V), σ' = [some (.ref a), some (.int mo), some (.ref me), some (.int low), some (.ref np), some (.ref ip), some (.int (m : Nat)), u7, u8, u9] ∧ Stk H0 H' np ip nums tss ls ∧ Held ns nums tss m (i + 1)) →
        t = tIfS (tAnd (tTest (tChain (rI0 fun i j => .bl (decide (i ≤ j))) (rI0 fun i j => .bl (decide (i ≤ j))) (tVar 3) (tOp (rI (fun _ j => 0 < j) fun i j => .int (i % j)) (tVar 8) (tC (.int 7))) (tC (.int 5)))) (tTest (tOp (rI0 fun i j => .bl (decide (i ≤ j))) (tCB (fun xs H Q => ∃ p ys, xs = [.ref p] ∧ (SqL K H p ys ∨ SqT K H p ys) ∧ Q (.int ys.length) H) (tCons (tVar 4) tNil)) (tC (.int 8)))))
          (tSeq (tDrop (tBM K "list" rAppend (tVar 4) (tCons (tCall (spNum K) [] E0 (tCons (tVar 0) (tCons (tVar 6) tNil))) tNil))) (tSeq (tDrop (tBM K "list" rAppend (tVar 5) (tCons (tLst tNil) tNil))) (tAsg (tOp (rI0 fun i j => .int (i + j)) (tVar 6) (tC (.int 1))) (gName 6))))
          (tSeq (tAsg (tOp (rI0 fun i j => .int (i + j)) (tC (.int 1)) (tOp (rI (fun _ j => 0 < j) fun i j => .int (i % j)) (tOp (rI CDiv fun i j => .int (i / j)) (tVar 8) (tC (.int 63))) (tC (.int 6)))) (gName 9)) (tSeq (tIfS (tTest (tOp rEq (tVar 7) (tOp (rI0 fun i j => .int (i + j)) (tC (.int 4)) (tOp (rI (fun _ j => 0 < j) fun i j => .int (i % j)) (tOp (rI CDiv fun i j => .int (i / j)) (tCall (spCell K) [] E0 (tCons (tVar 0) (tCons (tC (.int 3)) tNil))) (tC (.int 8))) (tC (.int 16)))))) (tAsg (tOp (rI0 fun i j => .int (i + j)) (tC (.int 197)) (tOp (rI CDiv fun i j => .int (i / j)) (tOp (rI0 fun i j => .int (i + j)) (tVar 9) (tC (.int 1))) (tC (.int 2)))) (gName 9)) tNext)
            (tSeq (tDrop (tBM K "list" rAppend (tOp (rIxL K) (tVar 5) (tUn (rU fun i => .int (-i)) (tC (.int 1)))) (tCons (tCall (spThing K) [] E0 (tCons (tOp (rI CDiv fun i j => .int (i / j)) (tVar 8) (tC (.int 7))) (tCons (tCall (spNum K) [] E0 (tCons (tVar 0) (tCons (tVar 6) tNil))) (tCons (tVar 2) (tCons (tVar 9) tNil))))) tNil))) (tAsg (tOp (rI0 fun i j => .int (i + j)) (tVar 6) (tC (.int 1))) (gName 6))))) →
        t R [some (.ref a), some (.int mo), some (.ref me), some (.int low), some (.ref np), some (.ref ip), some (.int (m : Nat)), some (.int (4 + (i : Int))), some (.int c), u9] H' := by
      rintro t R hR rfl
      have thing : ∀ (u : TS), u = (tSeq (tAsg (tOp (rI0 fun i j => .int (i + j)) (tC (.int 1)) (tOp (rI (fun _ j => 0 < j) fun i j => .int (i % j)) (tOp (rI CDiv fun i j => .int (i / j)) (tVar 8) (tC (.int 63))) (tC (.int 6)))) (gName 9)) (tSeq (tIfS (tTest (tOp rEq (tVar 7) (tOp (rI0 fun i j => .int (i + j)) (tC (.int 4)) (tOp (rI (fun _ j => 0 < j) fun i j => .int (i % j)) (tOp (rI CDiv fun i j => .int (i / j)) (tCall (spCell K) [] E0 (tCons (tVar 0) (tCons (tC (.int 3)) tNil))) (tC (.int 8))) (tC (.int 16)))))) (tAsg (tOp (rI0 fun i j => .int (i + j)) (tC (.int 197)) (tOp (rI CDiv fun i j => .int (i / j)) (tOp (rI0 fun i j => .int (i + j)) (tVar 9) (tC (.int 1))) (tC (.int 2)))) (gName 9)) tNext)
            (tSeq (tDrop (tBM K "list" rAppend (tOp (rIxL K) (tVar 5) (tUn (rU fun i => .int (-i)) (tC (.int 1)))) (tCons (tCall (spThing K) [] E0 (tCons (tOp (rI CDiv fun i j => .int (i / j)) (tVar 8) (tC (.int 7))) (tCons (tCall (spNum K) [] E0 (tCons (tVar 0) (tCons (tVar 6) tNil))) (tCons (tVar 2) (tCons (tVar 9) tNil))))) tNil))) (tAsg (tOp (rI0 fun i j => .int (i + j)) (tVar 6) (tC (.int 1))) (gName 6))))) → u R [some (.ref a), some (.int mo), some (.ref me), some (.int low), some (.ref np), some (.ref ip), some (.int (m : Nat)), some (.int (4 + (i : Int))), some (.int c), u9] H' := by
        rintro u rfl
        have z0 : 0 ≤ c / 63 % 6 := Int.emod_nonneg _ (by decide)
        have z1 : c / 63 % 6 < 6 := Int.emod_lt_of_pos _ (by decide)
        refine ⟨_, rfl, _, _, rfl, rfl, ⟨by decide, by decide⟩, _, _, rfl, rfl, (by show (0 : Int) < _; decide), _, _, rfl, rfl, ?_⟩
        dsimp only
        generalize hsz : 1 + c / 63 % 6 = sz
        have y0 : 1 ≤ sz := by omega
        have y1 : sz ≤ 6 := by omega
        clear z0 z1 hsz
        have fin : ∀ sz : Int, 1 ≤ sz → sz ≤ 200 → ∀ (u : TS), u = (tSeq (tDrop (tBM K "list" rAppend (tOp (rIxL K) (tVar 5) (tUn (rU fun i => .int (-i)) (tC (.int 1)))) (tCons (tCall (spThing K) [] E0 (tCons (tOp (rI CDiv fun i j => .int (i / j)) (tVar 8) (tC (.int 7))) (tCons (tCall (spNum K) [] E0 (tCons (tVar 0) (tCons (tVar 6) tNil))) (tCons (tVar 2) (tCons (tVar 9) tNil))))) tNil))) (tAsg (tOp (rI0 fun i j => .int (i + j)) (tVar 6) (tC (.int 1))) (gName 6))) →
            u R [some (.ref a), some (.int mo), some (.ref me), some (.int low), some (.ref np), some (.ref ip), some (.int (m : Nat)), some (.int (4 + (i : Int))), some (.int c), some (.int sz)] H' := by
          rintro sz s0 s1 u rfl
          obtain ⟨r0, hr0⟩ := Hd.top
          have hlen := Hd.len
          obtain ⟨tss', ts, rfl⟩ := snoc_of (l := tss) (by intro z; rw [z, hr0] at hlen; simp at hlen)
          obtain ⟨l1, l2, e, p1, p2⟩ := paired_split S.lv
          cases p2 with
          | cons k p3 =>
            rename_i lx _
            cases p3
            obtain ⟨xs, hx, hxt⟩ := k
            subst e
            have hat : atI ((l1 ++ [lx]).map V.ref) (-1) = some (.ref lx) := by rw [List.map_append]; exact atI_last _ _
            have hxl : xs.length ≤ 63 := by
              rw [← paired_len hxt]
              have := Hd.size ts (List.mem_append_right _ List.mem_cons_self)
              omega
            refine ⟨_, rfl, 1, rfl, ip, _, _, _, rfl, rfl, SqL.of S.hi, hat, .inl ⟨rfl, _, SqL.of hx⟩, _, rfl, _, _, rfl, rfl, ⟨by decide, by decide⟩, _, rfl, _, rfl, a, ns, _, rfl, gS.seq hS, h63, by omega, by omega, _, rfl, _, rfl, _, _, me, ws, sz, rfl, SqL.of (S.same _ _ hme), hwl, hwd, s0, s1, fun t v H2 g2 ht hlf => ?_⟩
            refine ⟨lx, _, _, rfl, rfl, g2 _ _ hx, by omega, ?_⟩
            refine ⟨_, rfl, _, _, rfl, rfl, ?_⟩
            show R.nx _ _
            rw [hR]
            exact ⟨nums, tss' ++ [ts ++ [t]], l1 ++ [lx], m + 1, _, _, _, rfl, S.put g2 hx hxt ht, Hd.put hlf⟩
        refine ⟨_, rfl, _, rfl, a, ns, 3, rfl, gS.seq hS, h63, by decide, by decide, _, _, rfl, rfl, ⟨by decide, by decide⟩, _, _, rfl, rfl, (by show (0 : Int) < _; decide), _, _, rfl, rfl, rfl, _, rfl, ?_⟩
        refine ite2 (fun d => ?_) (fun d => ?_)
        · refine ⟨_, rfl, _, _, rfl, rfl, _, _, rfl, rfl, ⟨by decide, by decide⟩, _, _, rfl, rfl, ?_⟩
          exact fin _ (by omega) (by omega) (tSeq _ _) rfl
        · exact fin sz y0 (by omega) (tSeq _ _) rfl
      refine ⟨_, rfl, _, rfl, _, _, rfl, rfl, (by show (0 : Int) < _; decide), _, _, rfl, rfl, _, rfl, ?_⟩
      refine ite2 (fun d => ?_) (fun d => ?_)
      · refine ⟨_, _, rfl, rfl, _, rfl, ?_⟩
        refine ite2 (fun d2 => ?_) (fun d2 => ?_)
        · refine ⟨_, rfl, np, _, rfl, .inl (SqL.of S.hn), _, _, rfl, rfl, _, rfl, ?_⟩
          refine ite2 (fun d3 => ?_) (fun d3 => ?_)
          · have d3' : (((nums.map V.int).length : Nat) : Int) ≤ 8 := of_decide_eq_true d3
            rw [hnl] at d3'
            refine ⟨_, rfl, .inl ⟨rfl, _, SqL.of S.hn⟩, _, rfl, _, rfl, a, ns, _, rfl, gS.seq hS, h63, by omega, by omega, np, _, _, rfl, rfl, S.hn, by rw [hnl]; omega, ?_⟩
            have en : nums.map V.int ++ [V.int (numZ ns (m : Nat))] = (nums ++ [numZ ns (m : Nat)]).map V.int := by rw [List.map_append] <;> rfl
            rw [en]
            have hi1 : upd H' np (.lst ((nums ++ [numZ ns (m : Nat)]).map V.int)) ip = some (.lst (ls.map V.ref)) := by rw [upd_ne S.ni.symm]; exact S.hi
            refine ⟨_, rfl, .inl ⟨rfl, _, SqL.of hi1⟩, (by show 0 ≤ sizeLine; decide), fun l hl => ?_⟩
            have hil : ip ≠ l := ne_of_none hi1 hl
            have lsl : ls.length ≤ 9 := by rw [← paired_len S.lv, ← Hd.len]; exact hm9
            refine ⟨ip, _, _, rfl, rfl, by rw [upd_ne hil]; exact hi1, by rw [List.length_map]; omega, ?_⟩
            refine ⟨_, rfl, _, _, rfl, rfl, ?_⟩
            show R.nx _ _
            rw [hR]
            have el : ls.map V.ref ++ [V.ref l] = (ls ++ [l]).map V.ref := by rw [List.map_append] <;> rfl
            rw [el]
            exact ⟨nums ++ [numZ ns (m : Nat)], tss ++ [[]], ls ++ [l], m + 1, _, _, _, rfl, S.begun hl, Hd.begun (by omega)⟩
          · exact thing (tSeq _ _) rfl
        · exact thing (tSeq _ _) rfl
      · refine ⟨_, rfl, ?_⟩
        exact thing (tSeq _ _) rfl
    refine ⟨_, rfl, _, _, rfl, rfl, (by show (0 : Int) < _; decide), rfl, _, rfl, ?_⟩
    refine ite2 (fun d => ?_) (fun d => ?_)
    · refine ⟨_, rfl, np, _, rfl, .inl (SqL.of S.hn), _, _, rfl, rfl, _, rfl, ?_⟩
      refine ite2 (fun d2 => ?_) (fun d2 => ?_)
      · have d2' : (1 : Int) < (((nums.map V.int).length : Nat) : Int) := of_decide_eq_true d2
        rw [hnl] at d2'
        obtain ⟨nums', n, rfl⟩ := snoc_of (l := nums) (by intro z; rw [z] at d2'; simp at d2')
        have hlen := Hd.len
        obtain ⟨tss', ts1, ts2, rfl⟩ := snoc2_of (l := tss) (by omega)
        have b1 := Hd.size ts1 (by simp)
        have b2 := Hd.size ts2 (by simp)
        refine ⟨_, rfl, _, rfl, H0, np, ip, nums', n, tss', ts1, ts2, ls, rfl, S, by omega, by omega, fun H2 ls' S2 => ?_⟩
        exact ⟨nums', _, ls', m, _, _, _, rfl, S2, Hd.ended (Nat.le_succ i)⟩
      · exact rest (tIfS _ _ _) _ rfl rfl
    · exact rest (tIfS _ _ _) _ rfl rfl
  · rintro σ' H' ⟨nums, tss, ls, m, u7, u8, u9, rfl, S, Hd⟩
    refine while_by (fun σ2 H2 => ∃ (nums : List Int) (tss : List (List Th)) (ls : List Addr), σ2 = [some (.ref a), some (.int mo), some (.ref me), some (.int low), some (.ref np), some (.ref ip), some (.int (m : Nat)), u7, u8, u9] ∧ Stk H0 H2 np ip nums tss ls ∧ Held ns nums tss m (hi - 4).toNat)
      (fun _ H2 => match H2 np with | some (.lst xs) => xs.length | _ => 0) ⟨nums, tss, ls, rfl, S, Hd⟩ ?_ (fun σ H Q Q' hq z => ?_)
    rotate_left
    · obtain ⟨v, hv, p, ys, e, h, i, j, e1, e2, k, e3, z⟩ := z
      exact ⟨v, hv, p, ys, e, h, i, j, e1, e2, k, e3, hq _ _ z⟩
    rintro σ2 H2 ⟨nums, tss, ls, rfl, S, Hd⟩
    have hnl : (nums.map V.int).length = nums.length := List.length_map _
    refine ⟨_, rfl, np, _, rfl, .inl (SqL.of S.hn), _, _, rfl, rfl, _, rfl, ?_⟩
    refine ite2 (fun d2 => ?_) (fun d2 => ?_)
    · have d2' : (1 : Int) < (((nums.map V.int).length : Nat) : Int) := of_decide_eq_true d2
      rw [hnl] at d2'
      obtain ⟨nums', n, rfl⟩ := snoc_of (l := nums) (by intro z; rw [z] at d2'; simp at d2')
      have hlen := Hd.len
      obtain ⟨tss', ts1, ts2, rfl⟩ := snoc2_of (l := tss) (by omega)
      have b1 := Hd.size ts1 (by simp)
      have b2 := Hd.size ts2 (by simp)
      refine ⟨_, rfl, _, rfl, H0, np, ip, nums', n, tss', ts1, ts2, ls, rfl, S, by omega, by omega, fun H3 ls' S3 => ?_⟩
      refine ⟨⟨nums', _, ls', rfl, S3, Hd.ended (Nat.le_refl _)⟩, ?_⟩
      show (match H3 np with | some (.lst xs) => xs.length | _ => 0) < (match H2 np with | some (.lst xs) => xs.length | _ => 0)
      rw [S.hn, S3.hn]
      show (nums'.map V.int).length < ((nums' ++ [n]).map V.int).length
      rw [List.length_map, List.length_map, List.length_append, List.length_singleton]
      omega
    · have d2' : ¬ (1 : Int) < (((nums.map V.int).length : Nat) : Int) := of_decide_eq_false (Bool.eq_false_iff.mpr d2)
      rw [hnl] at d2'
      obtain ⟨r0, hr0⟩ := Hd.top
      have hlen := Hd.len
      have h1 : tss.length = 1 := by rw [hr0] at hlen d2'; rw [List.length_cons] at hlen d2'; omega
      obtain ⟨ts, rfl⟩ : ∃ ts, tss = [ts] := by
        cases tss with
        | nil => simp at h1
        | cons t r =>
          have hr : r = [] := List.eq_nil_of_length_eq_zero (by simpa using h1)
          exact ⟨t, by rw [hr]⟩
      have hlv := S.lv
      cases hlv with
      | cons k p =>
        rename_i l _
        cases p
        obtain ⟨xs, hx, hxt⟩ := k
        have hat : atI ([l].map V.ref) 0 = some (.ref l) := rfl
        refine ⟨_, rfl, ip, _, _, _, rfl, rfl, SqL.of S.hi, hat, l, _, rfl, .inl ⟨SqL.of hx, fun t ht => ⟨(by show 3 ≤ sizeLine; decide), fun p hp => ?_⟩⟩⟩
        have g1 := same_new ht (.tup xs)
        have g2 := same_new hp (.tup [.str "part", .int 0, .ref t])
        refine q (L2.F.of ts) m _ _ (((g0.trans S.same).trans g1).trans g2) ⟨p, t, xs, rfl, upd_same, g2 _ _ upd_same, fR_iff.mpr (by rw [ths_of]; exact hxt.mono (g1.trans g2).t)⟩ (Hd.doc (by omega)) ?_
        have := Hd.mi
        omega
end
end D
namespace D
open PySem L2
theorem cs_join2 (s x y : Str) (r : List Str) : cs (Str.join s (x :: y :: r)) = cs x ++ (cs s ++ cs (Str.join s (y :: r))) := by
  show cs (x ++ s ++ Str.join s (y :: r)) = _
  rw [cs_app, cs_app, List.append_assoc]
theorem join_len {z : Str} {m : Nat} (hz : z.length ≤ 1) : ∀ {ys : List Str}, (∀ y ∈ ys, y.length ≤ m) → (Str.join z ys).length ≤ (m + 1) * ys.length
  | [], _ => by rw [← cs_len]; exact Nat.zero_le _
  | [y], h => by
    have := h y List.mem_cons_self
    show y.length ≤ (m + 1) * 1
    omega
  | y :: y2 :: r, h => by
    have z1 := h y List.mem_cons_self
    have i := join_len hz (ys := y2 :: r) (fun p hp => h p (List.mem_cons_of_mem _ hp))
    rw [← cs_len, cs_join2, List.length_append, List.length_append, cs_len, cs_len, cs_len, show (y :: y2 :: r).length = (y2 :: r).length + 1 from rfl, Nat.mul_add]
    omega
theorem sum_len {m : Nat} : ∀ {ys : List Str}, (∀ y ∈ ys, y.length ≤ m) → (ys.map (·.length)).sum ≤ m * ys.length
  | [], _ => Nat.zero_le _
  | y :: r, h => by
    have z := h y List.mem_cons_self
    have i := sum_len (ys := r) (fun p hp => h p (List.mem_cons_of_mem _ hp))
    rw [List.map_cons, List.sum_cons, List.length_cons, Nat.mul_add]
    omega
def addB (h : Str) (b : Str × Str) : Str := h ++ " " ++ b.1 ++ ">" ++ b.2
def headOf (sc : Str) (ph : List Str) (bs : List (Str × Str)) : Str := bs.foldl addB ("tell " ++ sc ++ " " ++ Str.join " " ph)
def lineOf : Th → Str
  | .say _ ws => "say " ++ Str.join " " ws
  | .tell _ sc ph bs ms => headOf sc ph bs ++ ": " ++ Str.join " " ms
  | .part _ _ => "part"
def linesF : F → List Str
  | .nil => []
  | .say n ws r => lineOf (.say n ws) :: linesF r
  | .tell n sc ph bs ms r => lineOf (.tell n sc ph bs ms) :: linesF r
  | .part _ i r => ("part" : Str) :: (linesF i ++ (("end" : Str) :: linesF r))
def textF (f : F) : Str := Str.join "\n" (linesF f)
theorem rw_len {ws : List Str} (h : Rw ws) : (Str.join " " ws).length ≤ 4200 ∧ (ws.map (·.length)).sum + ws.length * (" " : Str).length ≤ 16777216 := by
  obtain ⟨_, h2, h3⟩ := h
  have e : (" " : Str).length = 1 := by decide +kernel
  have a := join_len (z := " ") (m := 20) (by rw [e]; exact Nat.le_refl _) (ys := ws) fun y hy => (h3 y hy).2.1
  have b := sum_len (m := 20) (ys := ws) fun y hy => (h3 y hy).2.1
  rw [e]
  omega
theorem head_len {sc : Str} {ph : List Str} {ms : List Str} {bs cs' : List (Str × Str)} (h : TlOk sc ph bs ms) (hp : cs'.length ≤ 5) (hc : ∀ b ∈ cs', b ∈ bs) : (headOf sc ph cs').length ≤ 94 + 42 * cs'.length := by
  obtain ⟨ws, last, e, hb⟩ := h.hbs
  have L20 : last.length ≤ 20 := (h.hph last (by rw [e]; exact List.mem_append_right _ List.mem_cons_self)).2.1
  have s4 : sc.length ≤ 4 := by
    have := h.hsc
    simp only [List.mem_cons, List.not_mem_nil, or_false] at this
    rcases this with rfl | rfl | rfl | rfl <;> decide +kernel
  have e1 : (" " : Str).length = 1 := by decide +kernel
  have e2 : (">" : Str).length = 1 := by decide +kernel
  have e5 : ("tell " : Str).length = 5 := by decide +kernel
  have a := join_len (z := " ") (m := 20) (by rw [e1]; exact Nat.le_refl _) (ys := ph) fun y hy => (h.hph y hy).2.1
  have h4 := h.hlen
  have st : ("tell " ++ sc ++ " " ++ Str.join " " ph).length ≤ 94 := by
    rw [len_app, len_app, len_app, e1, e5]
    omega
  unfold headOf
  have key : ∀ (l : List (Str × Str)) (x : Str), (∀ b ∈ l, b.1.length ≤ 20 ∧ b.2.length ≤ 20) → (l.foldl addB x).length ≤ x.length + 42 * l.length := by
    intro l
    induction l with
    | nil => intro x _; exact Nat.le_refl _
    | cons b r ih =>
      intro x hx
      have b1 := hx b List.mem_cons_self
      have := ih (addB x b) fun z hz => hx z (List.mem_cons_of_mem _ hz)
      have eb : (addB x b).length = x.length + 1 + b.1.length + 1 + b.2.length := by
        unfold addB
        rw [len_app, len_app, len_app, len_app, e1, e2]
      rw [eb] at this
      rw [List.foldl_cons, List.length_cons]
      omega
  have := key cs' ("tell " ++ sc ++ " " ++ Str.join " " ph) fun b hb' => by
    have f := hb.fit b (hc b hb')
    exact ⟨by omega, f.2.2.1⟩
  omega
def spLine : Sp := fun vs H Q _ => ∃ (t : Th) (v : V), vs = [v] ∧ thR H t v ∧ TOk t ∧ (¬ ∃ n i, t = .part n i) ∧ ((lineOf t).length ≤ 5000 → ∀ H', Same H H' → Q (.str (lineOf t)) H')
section
variable {P : Program} {w : World} {K : PySem.W.Frag} {mg : Str → Option Value} {base : Heap} {f : Addr} {fd : FuncData}
theorem scLine : FnScope ["_law_thing_here", "_law_words", "_law_head", "_law_cut", "_law_put"] ["_law_thing_here"] (defScope s_l_line) := ⟨rfl, rfl, rfl, by decide +kernel, rfl, by decide +kernel, by decide +kernel⟩
set_option maxHeartbeats 8000000 in
theorem ok_line (F : Fun K "_law_line" "_law_line" s_l_line f fd) : FnOk P w K mg base CX0 1 f fd ["_law_thing_here"] spLine := by
  refine F.ok scLine (fun vs H Q E h => ?_) (fun cdv A outer s H vs Q E hr h => ?_)
  · obtain ⟨t, v, rfl, _⟩ := h
    rfl
  obtain ⟨t, v, rfl, hv, hok, hnp, q⟩ := h
  refine ⟨_, pss_cons (ps_set (i := 1) scLine.nd rfl (Or.inl rfl) (pe_bm PySem.F.plainAttrs_str PySem.F.slot_str_join PySem.F.type_str_join mt_join pe_str (pa_cons (pe_ix ix_tup (pv 0) (pe_un un_neg pe_int) (fun _ _ => rfl)) pa_nil)))
    (pss_cons (ps_if (pt_cmpR op_eq (pe_ix ix_tup (pv 0) pe_int (fun _ _ => rfl)) pe_str (nomark _)) (pss_one (ps_ret (pe_op op_add_str pe_str (pv 1)))) pss_nil)
    (pss_cons (ps_set (i := 2) scLine.nd rfl (Or.inl rfl) (pe_op op_add_str (pe_op op_add_str (pe_op op_add_str pe_str (pe_ix ix_tup (pv 0) pe_int (fun _ _ => rfl))) pe_str) (pe_bm PySem.F.plainAttrs_str PySem.F.slot_str_join PySem.F.type_str_join mt_join pe_str (pa_cons (pe_ix ix_tup (pv 0) pe_int (fun _ _ => rfl)) pa_nil))))
    (pss_cons (ps_for PassesOwn.never rfl (pi_tup (pe_ix ix_tup (pv 0) pe_int (fun _ _ => rfl))) (pg_tup rfl (pgs_cons (pg_name (i := 3) scLine.nd rfl (Or.inl rfl)) (pgs_cons (pg_name (i := 4) scLine.nd rfl (Or.inl rfl)) pgs_nil)))
      (pss_one (ps_set (i := 2) scLine.nd rfl (Or.inl rfl) (pe_op op_add_str (pe_op op_add_str (pe_op op_add_str (pe_op op_add_str (pv 2) pe_str) (pv 3)) pe_str) (pv 4)))))
    (pss_one (ps_ret (pe_op op_add_str (pe_op op_add_str (pv 2) pe_str) (pv 1))))))), ?_⟩
  have hb := big
  cases t with
  | part n i => exact absurd ⟨n, i, rfl⟩ hnp
  | say n ws =>
    obtain ⟨a, x, rfl, h1, b, rfl, h2⟩ := hv
    obtain ⟨l1, l2⟩ := rw_len hok
    refine ⟨rfl, _, rfl, 1, rfl, a, _, _, _, rfl, rfl, SqT.of h1, rfl, _, b, ws, rfl, rfl, .inr (SqT.of h2), l2, ?_⟩
    refine ⟨_, rfl, a, _, _, _, rfl, rfl, SqT.of h1, rfl, rfl, _, rfl, ?_⟩
    refine ite2 (fun _ => ?_) (fun z => absurd (decide_eq_true rfl) z)
    have e4 : ("say " : Str).length = 4 := by decide +kernel
    refine ⟨_, rfl, _, _, rfl, rfl, by rw [e4]; omega, ?_⟩
    exact q (by show ("say " ++ Str.join " " ws).length ≤ 5000; rw [len_app, e4]; omega) H (Same.refl H)
  | tell n sc ph bs ms =>
    obtain ⟨a, x, y, z, rfl, h1, ⟨pa, rfl, h2⟩, ⟨ba, bxs, rfl, h3, h4⟩, ⟨ma, rfl, h5⟩⟩ := hv
    have hok : TlOk sc ph bs ms := hok
    obtain ⟨l1, l2⟩ := rw_len hok.hms
    refine ⟨rfl, _, rfl, 1, rfl, a, _, _, _, rfl, rfl, SqT.of h1, rfl, _, ma, ms, rfl, rfl, .inr (SqT.of h5), l2, ?_⟩
    refine ⟨_, rfl, a, _, _, _, rfl, rfl, SqT.of h1, rfl, rfl, _, rfl, ?_⟩
    refine ite2 (fun z => absurd z (by show ¬ decide (V.str "tell" = V.str "say") = true; decide)) (fun _ => ?_)
    have s4 : sc.length ≤ 4 := by
      have := hok.hsc
      simp only [List.mem_cons, List.not_mem_nil, or_false] at this
      rcases this with rfl | rfl | rfl | rfl <;> decide +kernel
    have e1 : (" " : Str).length = 1 := by decide +kernel
    have e2 : (">" : Str).length = 1 := by decide +kernel
    have e3 : (": " : Str).length = 2 := by decide +kernel
    have e5 : ("tell " : Str).length = 5 := by decide +kernel
    have p20 := fun y hy => (hok.hph y hy).2.1
    have j1 := join_len (z := " ") (m := 20) (by rw [e1]; exact Nat.le_refl _) (ys := ph) p20
    have j2 := sum_len (m := 20) (ys := ph) p20
    have j4 := hok.hlen
    obtain ⟨wl, last, ep, hbok⟩ := hok.hbs
    have L20 : last.length ≤ 20 := p20 last (by rw [ep]; exact List.mem_append_right _ List.mem_cons_self)
    have j5 := hbok.len
    refine ⟨_, rfl, a, _, _, _, rfl, rfl, SqT.of h1, rfl, _, _, rfl, rfl, by rw [e5]; omega, _, _, rfl, rfl, by rw [len_app, e5, e1]; omega, rfl, _, rfl, a, _, _, _, rfl, rfl, SqT.of h1, rfl, _, pa, ph, rfl, rfl, .inr (SqT.of h2), by rw [e1]; omega, _, _, rfl, rfl, by rw [len_app, len_app, e5, e1]; omega, ?_⟩
    refine ⟨_, rfl, a, _, _, _, rfl, rfl, SqT.of h1, rfl, ba, rfl, ⟨_, SqT.of h3⟩, ?_⟩
    refine for_tup (K := K) (a := ba) (xs := bxs) (fun i σ' H' => H' = H ∧ ∃ u v : Option V, σ' = [some (.ref a), some (.str (Str.join " " ms)), some (.str (headOf sc ph (bs.take i))), u, v]) ⟨rfl, none, none, rfl⟩ (fun i σ' H' _ h => by rw [h.1]; exact SqT.of h3) ?_ ?_
    · rintro i v σ' H' hi ⟨rfl, u, v', rfl⟩
      obtain ⟨b, hbi, ca, rfl, hca⟩ := paired_get h4 hi
      have f := hbok.fit b (List.mem_of_getElem? hbi)
      have hl := head_len (cs' := bs.take i) hok (by rw [List.length_take]; omega) fun b hb => List.mem_of_mem_take hb
      rw [List.length_take] at hl
      refine ⟨ca, _, rfl, SqT.of hca, rfl, _, _, rfl, _, _, rfl, rfl, ?_⟩
      have en : headOf sc ph (bs.take (i + 1)) = addB (headOf sc ph (bs.take i)) b := by
        unfold headOf
        rw [List.take_add_one, hbi, List.foldl_append] <;> rfl
      rw [en]
      exact ⟨_, rfl, _, _, rfl, rfl, by rw [e1]; omega, _, rfl, _, _, rfl, rfl, by rw [len_app, e1]; omega, _, _, rfl, rfl, by rw [len_app, len_app, e1, e2]; omega, _, rfl, _, _, rfl, rfl, by rw [len_app, len_app, len_app, e1, e2]; omega, rfl, _, _, rfl⟩
    · rintro σ' H' ⟨rfl, u, v', rfl⟩
      have el : bxs.length = bs.length := (paired_len h4).symm
      rw [el, List.take_length]
      have hl := head_len (cs' := bs) hok (by omega) fun b hb => hb
      refine ⟨_, rfl, _, _, rfl, rfl, by rw [e3]; omega, _, rfl, _, _, rfl, rfl, by rw [len_app, e3]; omega, ?_⟩
      exact q (by show (headOf sc ph bs ++ ": " ++ Str.join " " ms).length ≤ 5000; rw [len_app, len_app, e3]; omega) H' (Same.refl H')
end
end D
namespace D
open PySem L2
def knd : Th → Str
  | .say _ _ => "say"
  | .tell _ _ _ _ _ => "tell"
  | .part _ _ => "part"
theorem thR_head {H : Hp} {t : Th} {v : V} (h : thR H t v) : ∃ a xs, v = .ref a ∧ H a = some (.tup xs) ∧ atI xs 0 = some (.str (knd t)) ∧ atI xs 1 = some (.int t.num) := by
  cases t with
  | say n ws =>
    obtain ⟨a, x, e, q, _⟩ := h
    exact ⟨a, _, e, q, rfl, rfl⟩
  | tell n sc ph bs ms =>
    obtain ⟨a, x, y, z, e, q, _⟩ := h
    exact ⟨a, _, e, q, rfl, rfl⟩
  | part n i =>
    obtain ⟨a, b, zs, e, q, _⟩ := h
    exact ⟨a, _, e, q, rfl, rfl⟩
theorem knd_part (t : Th) : decide (V.str (knd t) = V.str "part") = true ↔ ∃ n i, t = .part n i := by
  cases t with
  | say n ws => exact ⟨fun z => absurd z (by show ¬ decide (V.str "say" = V.str "part") = true; decide), fun ⟨_, _, e⟩ => nomatch e⟩
  | tell n sc ph bs ms => exact ⟨fun z => absurd z (by show ¬ decide (V.str "tell" = V.str "part") = true; decide), fun ⟨_, _, e⟩ => nomatch e⟩
  | part n i => exact ⟨fun _ => ⟨n, i, rfl⟩, fun _ => decide_eq_true rfl⟩
theorem seq0 (x : V) (r : List V) : seqIndex? 0 (x :: r).length = some 0 := by
  unfold seqIndex?
  simp
end D
namespace D
open PySem L2
theorem line_len {t : Th} (h : TOk t) (hn : ¬ ∃ n i, t = .part n i) : (lineOf t).length ≤ 5000 := by
  cases t with
  | part n i => exact absurd ⟨n, i, rfl⟩ hn
  | say n ws =>
    obtain ⟨l1, _⟩ := rw_len h
    have e4 : ("say " : Str).length = 4 := by decide +kernel
    show ("say " ++ Str.join " " ws).length ≤ 5000
    rw [len_app, e4]
    omega
  | tell n sc ph bs ms =>
    have h : TlOk sc ph bs ms := h
    obtain ⟨l1, _⟩ := rw_len h.hms
    obtain ⟨_, _, _, hb⟩ := h.hbs
    have h5 := hb.len
    have hl := head_len (cs' := bs) h h5 fun b hb => hb
    have e3 : (": " : Str).length = 2 := by decide +kernel
    show (headOf sc ph bs ++ ": " ++ Str.join " " ms).length ≤ 5000
    rw [len_app, len_app, e3]
    omega
theorem lines_ok : ∀ (f : F), (∀ t ∈ f.ord, TOk t) → ∀ x ∈ linesF f, x.length ≤ 5000
  | .nil, _, _, h => nomatch h
  | .say n ws r, ho, x, h => by
    rcases List.mem_cons.mp h with e | e
    · rw [e]; exact line_len (ho _ List.mem_cons_self) (fun ⟨_, _, z⟩ => nomatch z)
    · exact lines_ok r (fun t ht => ho t (List.mem_cons_of_mem _ ht)) x e
  | .tell n sc ph bs ms r, ho, x, h => by
    rcases List.mem_cons.mp h with e | e
    · rw [e]; exact line_len (ho _ List.mem_cons_self) (fun ⟨_, _, z⟩ => nomatch z)
    · exact lines_ok r (fun t ht => ho t (List.mem_cons_of_mem _ ht)) x e
  | .part n i r, ho, x, h => by
    rcases List.mem_cons.mp h with e | e
    · rw [e]; decide +kernel
    · rcases List.mem_append.mp e with e | e
      · exact lines_ok i (fun t ht => ho t (List.mem_cons_of_mem _ (List.mem_append_left _ ht))) x e
      · rcases List.mem_cons.mp e with e | e
        · rw [e]; decide +kernel
        · exact lines_ok r (fun t ht => ho t (List.mem_cons_of_mem _ (List.mem_append_right _ ht))) x e
theorem lines_len : ∀ (f : F), (linesF f).length ≤ 2 * f.ord.length
  | .nil => Nat.le_refl _
  | .say n ws r => by
    have := lines_len r
    show (linesF r).length + 1 ≤ 2 * (r.ord.length + 1)
    omega
  | .tell n sc ph bs ms r => by
    have := lines_len r
    show (linesF r).length + 1 ≤ 2 * (r.ord.length + 1)
    omega
  | .part n i r => by
    have h1 := lines_len i
    have h2 := lines_len r
    show (linesF i ++ (("end" : Str) :: linesF r)).length + 1 ≤ 2 * ((i.ord ++ r.ord).length + 1)
    rw [List.length_append, List.length_append, List.length_cons]
    omega
def lnO : Option Th → List Str
  | none => ["end"]
  | some (.part _ i) => ("part" : Str) :: (linesF i ++ [("end" : Str)])
  | some t => [lineOf t]
theorem lines_flat : ∀ f : F, linesF f = (f.ths.map some).flatMap lnO
  | .nil => rfl
  | .say n ws r => by
    show lineOf (.say n ws) :: linesF r = _
    rw [lines_flat r] <;> rfl
  | .tell n sc ph bs ms r => by
    show lineOf (.tell n sc ph bs ms) :: linesF r = _
    rw [lines_flat r] <;> rfl
  | .part n i r => by
    show ("part" : Str) :: (linesF i ++ (("end" : Str) :: linesF r)) = (("part" : Str) :: (linesF i ++ [("end" : Str)])) ++ (r.ths.map some).flatMap lnO
    rw [← lines_flat r, List.cons_append, List.append_assoc] <;> rfl
def oR (H : Hp) : Option Th → V → Prop
  | none, v => v = .non
  | some t, v => thR H t v
theorem oR_mono {H H' : Hp} (g : TSame H H') : ∀ {o : Option Th} {v : V}, oR H o v → oR H' o v
  | none, _, h => h
  | some _, _, h => thR.mono h g
abbrev osR (H : Hp) : List (Option Th) → List V → Prop := Paired (oR H)
theorem osR_mono {H H' : Hp} {ts : List (Option Th)} {xs : List V} (h : osR H ts xs) (g : TSame H H') : osR H' ts xs := Paired.mapP h fun _ _ z => oR_mono g z
theorem osR_some {H : Hp} : ∀ {ts : List Th} {xs : List V}, thsR H ts xs → osR H (ts.map some) xs
  | _, _, .nil => .nil
  | _ :: _, _ :: _, .cons q r => .cons q (osR_some r)
def okO : Option Th → Prop
  | none => True
  | some t => ∀ s ∈ t.ord, TOk s
theorem lnO_pos (o : Option Th) : 1 ≤ (lnO o).length := by
  cases o with
  | none => exact Nat.le_refl _
  | some t => cases t <;> simp [lnO]
theorem ln_len (ts : List (Option Th)) : ts.length ≤ (ts.flatMap lnO).length := by
  induction ts with
  | nil => exact Nat.le_refl _
  | cons x r ih =>
    rw [List.flatMap_cons, List.length_append, List.length_cons]
    have := lnO_pos x
    omega
def spLines : Sp := fun vs H Q _ => ∃ (v : V) (n : Int) (f : F), vs = [v] ∧ partR H n f v ∧ f.ord.length ≤ 1000 ∧ (∀ t ∈ f.ord, TOk t) ∧ ∀ r H', Same H H' → H' r = some (.lst ((linesF f).map V.str)) → Q (.ref r) H'
section
variable {P : Program} {w : World} {K : PySem.W.Frag} {mg : Str → Option Value} {base : Heap} {f : Addr} {fd : FuncData}
theorem scLines : FnScope ["_law_doc", "_law_lines_here", "_law_left", "_law_thing_here"] ["_law_doc"] (defScope s_l_lines) := ⟨rfl, rfl, rfl, by decide +kernel, rfl, by decide +kernel, by decide +kernel⟩
set_option maxHeartbeats 8000000 in
theorem ok_lines (F : Fun K "_law_lines" "_law_lines" s_l_lines f fd) (T : Nm mg) (GL : Def P w K mg base CX0 1 "_law_line" ["_law_thing_here"] spLine) : FnOk P w K mg base CX0 2 f fd ["_law_doc"] spLines := by
  refine F.ok scLines (fun vs H Q E h => ?_) (fun cdv A outer s H vs Q E hr h => ?_)
  · obtain ⟨v, n, fo, rfl, _⟩ := h
    rfl
  obtain ⟨v, n, fo, rfl, hv, hlen, hok, q⟩ := h
  refine ⟨_, pss_cons (ps_set (i := 1) scLines.nd rfl (Or.inl rfl) (pe_lst pa_nil))
    (pss_cons (ps_set (i := 2) scLines.nd rfl (Or.inl rfl) (pe_callTy call_list_of rfl T.list PyProof.Rows.boot_list (pa_cons (pe_ix ix_tup (pv 0) pe_int (fun _ _ => rfl)) pa_nil)))
    (pss_cons (ps_while PassesOwn.never (pt_cmpR (op_neNil hr.units0) (pv 2) (pe_lst pa_nil) (nomark _))
      (pss_cons (ps_set (i := 3) scLines.nd rfl (Or.inl rfl) (pe_bm PySem.F.plainAttrs_list PySem.F.slot_list_pop PySem.F.type_list_pop mt_popAt (pv 2) (pa_cons pe_int pa_nil)))
      (pss_one (ps_if (pt_cmpR op_isN (pv 3) pe_non (nomark _))
        (pss_one (ps_expr (pe_bm PySem.F.plainAttrs_list PySem.F.slot_list_append PySem.F.type_list_append mt_append (pv 1) (pa_cons pe_str pa_nil))))
        (pss_one (ps_if (pt_cmpR op_eq (pe_ix ix_tup (pv 3) pe_int (fun _ _ => rfl)) pe_str (nomark _))
          (pss_cons (ps_expr (pe_bm PySem.F.plainAttrs_list PySem.F.slot_list_append PySem.F.type_list_append mt_append (pv 1) (pa_cons pe_str pa_nil)))
          (pss_one (ps_set (i := 2) scLines.nd rfl (Or.inl rfl) (pe_op op_cat (pe_op op_cat (pe_callTy call_list_of rfl T.list PyProof.Rows.boot_list (pa_cons (pe_ix ix_tup (pv 3) pe_int (fun _ _ => rfl)) pa_nil)) (pe_lst (pa_cons pe_non pa_nil))) (pv 2)))))
          (pss_one (ps_expr (pe_bm PySem.F.plainAttrs_list PySem.F.slot_list_append PySem.F.type_list_append mt_append (pv 1) (pa_cons (pe_def GL hr (pa_cons (pv 3) pa_nil)) pa_nil))))))))))
    (pss_one (ps_ret (pv 1))))), ?_⟩
  have hb := big
  obtain ⟨da, db, zs, rfl, h1, h2, h3⟩ := hv
  have hll := lines_len fo
  refine ⟨(by show 0 ≤ sizeLine; decide), fun p hp => ?_⟩
  have g1 := same_new hp (.lst [])
  have e1 : upd H p (.lst []) p = some (.lst []) := upd_same
  generalize upd H p (.lst []) = H1 at g1 e1 ⊢
  refine ⟨_, rfl, da, _, _, _, rfl, rfl, SqT.of (g1 _ _ h1), rfl, db, _, rfl, .inr (SqT.of (g1 _ _ h2)), fun l0 hl0 => ?_⟩
  have g2 := same_new hl0 (.lst zs)
  have e2 : upd H1 l0 (.lst zs) l0 = some (.lst zs) := upd_same
  have p2 : upd H1 l0 (.lst zs) p = some (.lst []) := g2 _ _ e1
  have n2 : p ≠ l0 := ne_of_none e1 hl0
  generalize upd H1 l0 (.lst zs) = H2 at g2 e2 p2 ⊢
  refine ⟨fun m σ' H' => ∃ (l : Addr) (ys : List V) (dn : List Str) (lt : List (Option Th)) (u : Option V), σ' = [some (.ref da), some (.ref p), some (.ref l), u] ∧ Same H H' ∧ p ≠ l ∧ H l = none ∧ H' p = some (.lst (dn.map V.str)) ∧ H' l = some (.lst ys) ∧ osR H' lt ys ∧ (∀ o ∈ lt, okO o) ∧ dn ++ lt.flatMap lnO = linesF fo ∧ (lt.flatMap lnO).length = m,
    ⟨_, l0, zs, [], fo.ths.map some, none, rfl, g1.trans g2, n2, g1.free hl0, p2, e2, osR_some (fR_iff.mp (fR_mono (g1.trans g2).t h3)), ?_, (lines_flat fo).symm, rfl⟩, ?_⟩
  · intro o ho
    obtain ⟨t, ht, rfl⟩ := List.mem_map.mp ho
    intro s hs
    refine hok s ?_
    rw [ord_flat]
    exact List.mem_flatMap.mpr ⟨t, ht, hs⟩
  rintro m σ' H' ⟨l, ys, dn, lt, u, rfl, g, npl, hl, hp', hl', hlt, hoo, he, hm⟩
  refine ⟨_, rfl, (by show 0 ≤ sizeLine; decide), fun r0 hr0 => ?_⟩
  have gA := same_new hr0 (.lst [])
  have e3 : upd H' r0 (.lst []) r0 = some (.lst []) := upd_same
  refine ⟨l, r0, ys, rfl, rfl, SqL.of (gA _ _ hl'), SqL.of e3, _, rfl, ?_⟩
  generalize upd H' r0 (.lst []) = H3 at gA e3 ⊢
  have hp3 := gA _ _ hp'
  have hl3 := gA _ _ hl'
  have hlt3 := osR_mono hlt gA.t
  have gH := g.trans gA
  cases hlt with
  | nil =>
    refine iteF ⟨_, rfl, ?_⟩
    have he' : dn = linesF fo := by rw [← he]; simp
    rw [he'] at hp3
    exact q p H3 gH hp3
  | cons q1 q2 =>
    rename_i o y lr yr
    cases hlt3 with
    | cons k1 k2 =>
      refine iteT ⟨fun σ' H' => ∃ m', m' < m ∧ ∃ (l : Addr) (ys : List V) (dn : List Str) (lt : List (Option Th)) (u : Option V), σ' = [some (.ref da), some (.ref p), some (.ref l), u] ∧ Same H H' ∧ p ≠ l ∧ H l = none ∧ H' p = some (.lst (dn.map V.str)) ∧ H' l = some (.lst ys) ∧ osR H' lt ys ∧ (∀ o ∈ lt, okO o) ∧ dn ++ lt.flatMap lnO = linesF fo ∧ (lt.flatMap lnO).length = m', fun _ _ h => h, ?_⟩
      have hsz : dn.length + m = (linesF fo).length := by rw [← he, List.length_append, hm]
      have hor : ∀ o ∈ lr, okO o := fun z hz => hoo z (List.mem_cons_of_mem _ hz)
      have ho1 := hoo o List.mem_cons_self
      rw [List.flatMap_cons] at he hm
      refine ⟨_, rfl, .inl ⟨rfl, _, SqL.of hl3⟩, l, _, 0, 0, _, rfl, rfl, hl3, by decide, by decide, seq0 _ _, rfl, ?_⟩
      have gB : TSame H3 (upd H3 l (.lst yr)) := TSame.lst hl3
      have kB : Same H (upd H3 l (.lst yr)) := keep_upd hl gH _
      have e4 : upd H3 l (.lst yr) l = some (.lst yr) := upd_same
      have p4 : upd H3 l (.lst yr) p = some (.lst (dn.map V.str)) := by rw [upd_ne npl]; exact hp3
      show gName 3 _ _ (upd H3 l (.lst yr)) _
      generalize upd H3 l (.lst yr) = H4 at gB kB e4 p4 ⊢
      have t4 := oR_mono gB k1
      have r4 : osR H4 lr yr := osR_mono k2 gB
      have app : ∀ (x : Str) (H5 : Hp), Same H4 H5 → ∀ {R : Hp → Prop}, (∀ H6, TSame H5 H6 → Same H H6 → H6 p = some (.lst ((dn ++ [x]).map V.str)) → H6 l = some (.lst yr) → R H6) → R (upd H5 p (.lst (dn.map V.str ++ [.str x]))) := by
        intro x H5 k5 R h
        refine h _ (TSame.lst (k5 _ _ p4)) (keep_upd hp (kB.trans k5) _) (by rw [upd_same, List.map_append] <;> rfl) (by rw [upd_ne npl.symm]; exact k5 _ _ e4)
      have dsz : (dn.map V.str).length < sizeLine := by rw [List.length_map]; omega
      cases o with
      | none =>
        have t4 : y = .non := t4
        subst t4
        refine ⟨_, rfl, rfl, _, rfl, ?_⟩
        refine ite2 (fun _ => ?_) (fun z => absurd (decide_eq_true rfl) z)
        refine ⟨_, rfl, .inl ⟨rfl, _, SqL.of p4⟩, p, _, _, rfl, rfl, p4, dsz, ?_⟩
        refine app "end" H4 (Same.refl _) (R := fun H6 => _) fun H6 t6 s6 p6 l6 => ?_
        refine ⟨(lr.flatMap lnO).length, ?_, l, yr, dn ++ [("end" : Str)], lr, _, rfl, s6, npl, hl, p6, l6, osR_mono r4 t6, hor, ?_, rfl⟩
        · rw [← hm, List.length_append]
          show _ < 1 + _
          omega
        · rw [List.append_assoc]
          exact he
      | some t =>
        have t4 : thR H4 t y := t4
        obtain ⟨ya, yxs, rfl, hya, hk0, _⟩ := thR_head t4
        refine ⟨_, rfl, rfl, _, rfl, ?_⟩
        refine ite2 (fun z => absurd (of_decide_eq_true z) (by intro z; cases z)) (fun _ => ?_)
        refine ⟨_, rfl, ya, _, _, _, rfl, rfl, SqT.of hya, hk0, rfl, _, rfl, ?_⟩
        refine ite2 (fun d => ?_) (fun d => ?_)
        · obtain ⟨pn, pi, rfl⟩ := (knd_part t).mp d
          obtain ⟨pa, pb, pz, ea, w1, w2, w3⟩ := t4
          cases ea
          refine ⟨_, rfl, .inl ⟨rfl, _, SqL.of p4⟩, p, _, _, rfl, rfl, p4, dsz, ?_⟩
          refine app "part" H4 (Same.refl _) (R := fun H6 => _) fun H6 t6 s6 p6 l6 => ?_
          have w1' := t6 _ _ w1
          have w2' := t6 _ _ w2
          have r6 := osR_mono r4 t6
          have w3' : osR H6 (pi.ths.map some) pz := osR_some (thsR.mono (fR_iff.mp w3) t6)
          refine ⟨_, rfl, ya, _, _, _, rfl, rfl, SqT.of w1', rfl, pb, _, rfl, .inr (SqT.of w2'), fun l7 hl7 => ?_⟩
          have g7 := same_new hl7 (.lst pz)
          refine ⟨(by show 1 ≤ sizeLine; decide), fun l8 hl8 => ?_⟩
          have g8 := same_new hl8 (.lst [.non])
          have z1 : pz.length = pi.ths.length := by have := paired_len w3'; rw [List.length_map] at this; exact this.symm
          have z2 : yr.length = lr.length := (paired_len r6).symm
          have z3 := ln_len (pi.ths.map some ++ [none] ++ lr)
          have z4 : (pi.ths.map some ++ [none] ++ lr).flatMap lnO = linesF pi ++ [("end" : Str)] ++ lr.flatMap lnO := by
            rw [List.flatMap_append, List.flatMap_append, ← lines_flat] <;> rfl
          have hm' : (("part" : Str) :: (linesF pi ++ [("end" : Str)]) ++ lr.flatMap lnO).length = m := by rw [← hm, List.length_append, List.length_append] <;> rfl
          rw [z4, List.length_append, List.length_append, List.length_append, List.length_append, List.length_map] at z3
          rw [List.length_append, List.length_cons, List.length_append] at hm'
          have q0 : ([none] : List (Option Th)).length = 1 := rfl
          have q1' : ([("end" : Str)] : List Str).length = 1 := rfl
          have qn : ([.non] : List V).length = 1 := rfl
          refine ⟨l7, l8, _, _, rfl, rfl, g8 _ _ upd_same, upd_same, by omega, fun l9 hl9 => ?_⟩
          have g9 := same_new hl9 (.lst (pz ++ [.non]))
          have l6' := g9 _ _ (g8 _ _ (g7 _ _ l6))
          refine ⟨_, rfl, l9, l, _, _, rfl, rfl, upd_same, l6', by rw [List.length_append]; omega, fun lA hlA => ?_⟩
          have gA' := same_new hlA (.lst (pz ++ [.non] ++ yr))
          have gz := ((g7.trans g8).trans g9).trans gA'
          refine ⟨(linesF pi ++ [("end" : Str)] ++ lr.flatMap lnO).length, by rw [List.length_append, List.length_append]; omega, lA, pz ++ [.non] ++ yr, dn ++ [("part" : Str)], pi.ths.map some ++ [none] ++ lr, _, rfl, s6.trans gz, ne_of_none ((g7.trans g8).trans g9 _ _ p6) hlA, (s6.trans ((g7.trans g8).trans g9)).free hlA, gz _ _ p6, upd_same, paired_app (paired_app (osR_mono w3' gz.t) (.cons (show oR _ none .non from rfl) .nil)) (osR_mono r6 gz.t), fun o ho => ?_, ?_, by rw [z4]⟩
          · rcases List.mem_append.mp ho with z | z
            · rcases List.mem_append.mp z with z | z
              · obtain ⟨t', ht', rfl⟩ := List.mem_map.mp z
                intro s hs
                refine ho1 s (List.mem_cons_of_mem _ ?_)
                show s ∈ pi.ord
                rw [ord_flat]
                exact List.mem_flatMap.mpr ⟨t', ht', hs⟩
              · rw [List.mem_singleton.mp z]; trivial
            · exact hor o z
          · rw [z4, ← he, List.append_assoc] <;> simp [lnO]
        · have hnp : ¬ ∃ n i, t = .part n i := fun z => d ((knd_part t).mpr z)
          have eln : lnO (some t) = [lineOf t] := by
            cases t with
            | part n i => exact absurd ⟨n, i, rfl⟩ hnp
            | say n ws => rfl
            | tell n sc ph bs ms => rfl
          rw [eln] at he hm
          refine ⟨_, rfl, .inl ⟨rfl, _, SqL.of p4⟩, _, rfl, t, _, rfl, t4, ho1 t List.mem_cons_self, hnp, fun _ H5 k5 => ?_⟩
          refine ⟨p, _, _, rfl, rfl, k5 _ _ p4, dsz, ?_⟩
          refine app (lineOf t) H5 k5 (R := fun H6 => _) fun H6 t6 s6 p6 l6 => ?_
          refine ⟨(lr.flatMap lnO).length, ?_, l, yr, dn ++ [lineOf t], lr, _, rfl, s6, npl, hl, p6, l6, osR_mono r4 (k5.t.trans t6), hor, ?_, rfl⟩
          · rw [← hm, List.length_append]
            show _ < 1 + _
            omega
          · rw [List.append_assoc]
            exact he
end
end D
namespace D
open PySem L2
theorem of_ths : ∀ f : F, F.of f.ths = f
  | .nil => rfl
  | .say n ws r => by
    show F.say n ws (F.of r.ths) = _
    rw [of_ths r]
  | .tell n sc ph bs ms r => by
    show F.tell n sc ph bs ms (F.of r.ths) = _
    rw [of_ths r]
  | .part n i r => by
    show F.part n i (F.of r.ths) = _
    rw [of_ths r]
theorem paired_drop1 {α β : Type} {F : α → β → Prop} {l : List α} {m : List β} (h : Paired F l m) : Paired F (l.drop 1) (m.drop 1) := by
  cases h with
  | nil => exact .nil
  | cons _ r => exact r
structure WrOk (f : F) : Prop where
  dep : f.dep ≤ 10
  len : f.ord.length ≤ 200
  ok : ∀ t ∈ f.ord, TOk t
theorem wr_nil : WrOk .nil := ⟨by decide, by decide, fun _ h => nomatch h⟩
theorem WrOk.tail {f : F} (h : WrOk f) : WrOk (F.of (f.ths.drop 1)) := by
  have hd := h.dep
  have hl := h.len
  have ho := h.ok
  cases hf : f.ths with
  | nil => exact wr_nil
  | cons t r =>
    have e : f = F.of (t :: r) := by rw [← hf, of_ths]
    have eo : f.ord = t.ord ++ (F.of r).ord := by
      rw [ord_flat, hf, ord_flat (F.of r), ths_of, List.flatMap_cons]
    show WrOk (F.of r)
    refine ⟨?_, ?_, fun s hs => ho s (by rw [eo]; exact List.mem_append_right _ hs)⟩
    · rw [e] at hd
      have : (F.of ([t] ++ r)).dep = max (F.of [t]).dep (F.of r).dep := dep_app [t] r
      have hd : (F.of ([t] ++ r)).dep ≤ 10 := hd
      omega
    · rw [eo, List.length_append] at hl
      omega
theorem WrOk.join {f : F} (h : WrOk f) : ((linesF f).map (·.length)).sum + (linesF f).length * ("\n" : Str).length ≤ 16777216 := by
  have e1 : ("\n" : Str).length = 1 := by decide +kernel
  have a := sum_len (m := 5000) (ys := linesF f) (lines_ok f h.ok)
  have b := lines_len f
  have c := h.len
  rw [e1]
  omega
theorem text_nil : textF .nil = ("" : Str) := by decide +kernel
def spWritten : Sp := fun vs H Q _ => ∃ (v : V) (f : F), vs = [v] ∧ partR H 0 f v ∧ WrOk f ∧ ∀ H', Same H H' → Q (.str (textF f)) H'
end D
namespace D
open PySem L2
theorem fnok_false {P : Program} {w : World} {K : PySem.W.Frag} {mg : Str → Option Value} {base : Heap} {CX : CXT} {k : Nat} {f : Addr} {fd : FuncData} {ps : List Str} {sp : Sp} (h : ∀ vs H Q E, ¬ sp vs H Q E) : FnOk P w K mg base CX k f fd ps sp :=
  ⟨fun vs H Q E z => absurd z (h vs H Q E), fun _ _ _ H _ _ vs Q E _ _ _ _ z => absurd z (h vs H Q E)⟩
def spText (K : PySem.W.Frag) : Sp := fun vs H Q _ => ∃ (a : Addr) (ws : List Str), vs = [.ref a] ∧ (SqL K H a (ws.map V.str) ∨ SqT K H a (ws.map V.str)) ∧ (ws.map (·.length)).sum + ws.length * (" " : Str).length ≤ 16777216 ∧ Q (.str (Str.join " " ws)) H
def bT (b : Str × Str) : Str := glue Str.empty [" ", b.1, ">", b.2]
theorem cs_glue : ∀ (ys : List Str) (acc : Str), cs (glue acc ys) = cs acc ++ (ys.map cs).flatten
  | [], acc => by show _ = cs acc ++ []; rw [List.append_nil] <;> rfl
  | y :: r, acc => by
    show cs (glue (acc ++ y) r) = _
    rw [cs_glue r, cs_app, List.append_assoc] <;> rfl
theorem cs_joinE : ∀ ys : List Str, cs (Str.join "" ys) = (ys.map cs).flatten
  | [] => rfl
  | [y] => by show cs y = cs y ++ []; rw [List.append_nil]
  | y :: y2 :: r => by
    rw [cs_join2, cs_joinE (y2 :: r)]
    show cs y ++ (cs "" ++ _) = cs y ++ _
    have e : cs ("" : Str) = [] := by decide +kernel
    rw [e, List.nil_append]
theorem fold_addB (bs : List (Str × Str)) : ∀ x : Str, bs.foldl addB x = x ++ Str.join "" (bs.map bT) := by
  induction bs with
  | nil =>
    intro x
    refine str_ext ?_
    rw [cs_app, cs_joinE]
    show cs x = cs x ++ []
    rw [List.append_nil]
  | cons b r ih =>
    intro x
    rw [List.foldl_cons, ih]
    refine str_ext ?_
    have e : cs (bT b) = cs " " ++ (cs b.1 ++ (cs ">" ++ cs b.2)) := by
      unfold bT
      rw [cs_glue]
      show [] ++ (cs " " ++ (cs b.1 ++ (cs ">" ++ (cs b.2 ++ [])))) = _
      rw [List.append_nil, List.nil_append]
    rw [cs_app, cs_app, cs_joinE, cs_joinE, List.map_cons, List.map_cons, List.flatten_cons, e]
    unfold addB
    rw [cs_app, cs_app, cs_app, cs_app]
    simp only [List.append_assoc]
theorem head_join (sc : Str) (ph : List Str) (bs : List (Str × Str)) : headOf sc ph bs = "tell " ++ sc ++ " " ++ Str.join " " ph ++ Str.join "" (bs.map bT) := fold_addB bs _
theorem bT_len (b : Str × Str) : (bT b).length = 2 + b.1.length + b.2.length := by
  unfold bT
  rw [glue_len]
  have e0 : Str.empty.length = 0 := rfl
  have e1 : (" " : Str).length = 1 := by decide +kernel
  have e2 : (">" : Str).length = 1 := by decide +kernel
  simp only [List.map_cons, List.map_nil, List.sum_cons, List.sum_nil, e0, e1, e2]
  omega
theorem joinE_len {m : Nat} {ys : List Str} (h : ∀ y ∈ ys, y.length ≤ m) : (Str.join "" ys).length ≤ m * ys.length := by
  rw [← cs_len, cs_joinE]
  induction ys with
  | nil => exact Nat.zero_le _
  | cons y r ih =>
    have a := h y List.mem_cons_self
    have b := ih fun z hz => h z (List.mem_cons_of_mem _ hz)
    rw [List.map_cons, List.flatten_cons, List.length_append, cs_len, List.length_cons, Nat.mul_add]
    omega
theorem compP_tup {K : PySem.W.Frag} {n : Nat} {a : Addr} {xs : List V} {gt : TG} {te : TE} {fin : List V → Hp → Prop} {σ : St} {H : Hp} (Pv : Nat → List V → Hp → Prop) (hz : xs.length ≤ sizeLine) (h0 : Pv 0 [] H) (hl : ∀ i ys H, i ≤ xs.length → Pv i ys H → SqT K H a xs ∧ ys.length ≤ i)
    (hs : ∀ i x ys H, xs[i]? = some x → Pv i ys H → ∀ us : St, us.length = n → ∀ (KY : V → Hp → Prop), (∀ y H3, Pv (i + 1) (ys ++ [y]) H3 → KY y H3) → gt x (σ ++ us) H fun σ2 H2 => ∃ us' : St, us'.length = n ∧ σ2 = σ ++ us' ∧ te σ2 H2 KY)
    (hd : ∀ ys H, Pv xs.length ys H → fin ys H) : CompRdP n (Itt K a) gt te fin σ H := by
  refine ⟨fun i m ys H => m = xs.length - i ∧ i ≤ xs.length ∧ Pv i ys H, ⟨xs.length, by simp, Nat.zero_le _, h0⟩, ?_⟩
  rintro i m ys H ⟨rfl, hi, p⟩
  obtain ⟨q, hy⟩ := hl i ys H hi p
  by_cases hlt : i < xs.length
  · refine .inr ⟨⟨xs, xs[i], q, by simp [hlt]⟩, fun x H' y us lus => ?_⟩
    obtain ⟨e, y⟩ := y
    subst e
    exact hs i x ys _ (y xs q) p us lus _ fun z H3 p3 => ⟨by omega, xs.length - (i + 1), by omega, rfl, hlt, p3⟩
  · have e : i = xs.length := by omega
    subst e
    exact .inl ⟨⟨xs, q, Nat.le_refl _⟩, hd ys H p⟩
def spTRow : Sp := fun vs H Q _ => ∃ (n : Int) (sc : Str) (ph : List Str) (bs : List (Str × Str)) (ms : List Str) (v : V), vs = [v] ∧ tellR H n sc ph bs ms v ∧ TlOk sc ph bs ms ∧ ((lineOf (.tell n sc ph bs ms)).length ≤ 5000 → ∀ H', Same H H' → Q (.str (lineOf (.tell n sc ph bs ms))) H')
section
variable {P : Program} {w : World} {K : PySem.W.Frag} {mg : Str → Option Value} {base : Heap} {f : Addr} {fd : FuncData}
theorem scText : FnScope ["words"] ["words"] (defScope s_text_of) := ⟨rfl, rfl, rfl, by decide +kernel, rfl, by decide +kernel, by decide +kernel⟩
theorem ok_text (F : Fun K "text_of" "text_of" s_text_of f fd) : FnOk P w K mg base CX0 1 f fd ["words"] (spText K) := by
  refine F.ok scText (fun vs H Q E h => ?_) (fun cdv A outer s H vs Q E hr h => ?_)
  · obtain ⟨a, ws, rfl, _⟩ := h
    rfl
  obtain ⟨a, ws, rfl, hs, hl, q⟩ := h
  refine ⟨_, pss_one (ps_ret (pe_bm PySem.F.plainAttrs_str PySem.F.slot_str_join PySem.F.type_str_join mt_join pe_str (pa_cons (pv 0) pa_nil))), ?_⟩
  exact ⟨rfl, _, rfl, _, a, ws, rfl, rfl, hs, hl, q⟩
abbrev NTR : List Str := ["telling", "bends", "head"]
theorem scTRow : FnScope NTR ["telling"] (defScope s_telling_row) := ⟨rfl, rfl, rfl, by decide +kernel, rfl, by decide +kernel, by decide +kernel⟩
set_option maxHeartbeats 8000000 in
theorem ok_trow (F : Fun K "telling_row" "telling_row" s_telling_row f fd) (GT : Def P w K mg base CX0 1 "text_of" ["words"] (spText K)) : FnOk P w K mg base CX0 2 f fd ["telling"] spTRow := by
  refine F.ok scTRow (fun vs H Q E h => ?_) (fun cdv A outer s H vs Q E hr h => ?_)
  · obtain ⟨n, sc, ph, bs, ms, v, rfl, _⟩ := h
    rfl
  obtain ⟨n, sc, ph, bs, ms, v, rfl, hv, hok, q⟩ := h
  refine ⟨_, pss_cons (ps_setcompP (i := 1) NTR (defScope s_telling_row) rfl (by decide +kernel) (by decide +kernel) (pi_tup (pe_ix ix_tup (pv 0) pe_int (fun _ _ => rfl))) (fun _ _ _ _ _ => pe_fstrV (pxs_cons px_const (pxs_cons (px_str (pv 3)) (pxs_cons px_const (pxs_cons (px_str (pv 4)) pxs_nil))))) rfl (Or.inl rfl))
    (pss_cons (ps_set (i := 2) scTRow.nd rfl (Or.inl rfl) (pe_op op_add_str (pe_op op_add_str (pe_op op_add_str (pe_op op_add_str pe_str (pe_ix ix_tup (pv 0) pe_int (fun _ _ => rfl))) pe_str) (pe_def GT hr (pa_cons (pe_ix ix_tup (pv 0) pe_int (fun _ _ => rfl)) pa_nil))) (pe_bm PySem.F.plainAttrs_str PySem.F.slot_str_join PySem.F.type_str_join mt_join pe_str (pa_cons (pv 1) pa_nil))))
    (pss_one (ps_ret (pe_op op_add_str (pe_op op_add_str (pv 2) pe_str) (pe_def GT hr (pa_cons (pe_ix ix_tup (pv 0) pe_int (fun _ _ => rfl)) pa_nil)))))), ?_⟩
  have hb := big
  obtain ⟨a, x, y, z, rfl, h1, ⟨pa, rfl, h2⟩, ⟨ba, bxs, rfl, h3, h4⟩, ⟨ma, rfl, h5⟩⟩ := hv
  obtain ⟨l1, l2⟩ := rw_len hok.hms
  have s4 : sc.length ≤ 4 := by
    have := hok.hsc
    simp only [List.mem_cons, List.not_mem_nil, or_false] at this
    rcases this with rfl | rfl | rfl | rfl <;> decide +kernel
  have e0 : ("" : Str).length = 0 := by decide +kernel
  have e1 : (" " : Str).length = 1 := by decide +kernel
  have e2 : (">" : Str).length = 1 := by decide +kernel
  have e3 : (": " : Str).length = 2 := by decide +kernel
  have e5 : ("tell " : Str).length = 5 := by decide +kernel
  have p20 := fun y hy => (hok.hph y hy).2.1
  have j1 := join_len (z := " ") (m := 20) (by rw [e1]; exact Nat.le_refl _) (ys := ph) p20
  have j2 := sum_len (m := 20) (ys := ph) p20
  have j4 := hok.hlen
  obtain ⟨wl, last, ep, hbok⟩ := hok.hbs
  have L20 : last.length ≤ 20 := p20 last (by rw [ep]; exact List.mem_append_right _ List.mem_cons_self)
  have j5 := hbok.len
  have b42 : ∀ y ∈ bs.map bT, y.length ≤ 42 := by
    intro y hy
    obtain ⟨b, hbm, rfl⟩ := List.mem_map.mp hy
    have f := hbok.fit b hbm
    rw [bT_len]
    have := f.2.2.1
    omega
  have el : bxs.length = bs.length := (paired_len h4).symm
  refine ⟨_, rfl, a, _, _, _, rfl, rfl, SqT.of h1, rfl, ba, rfl, ⟨_, SqT.of h3⟩, ?_⟩
  refine compP_tup (K := K) (n := 2) (a := ba) (xs := bxs) (fun i ys H' => H' = H ∧ ys = ((bs.take i).map bT).map V.str) (by omega) ⟨rfl, rfl⟩ (fun i ys H' hi h => ⟨by rw [h.1]; exact SqT.of h3, by rw [h.2, List.length_map, List.length_map, List.length_take]; omega⟩) ?_ ?_
  · rintro i v ys H' hi ⟨rfl, rfl⟩ us lus KY hK
    obtain ⟨b, hbi, ca, rfl, hca⟩ := paired_get h4 hi
    have f := hbok.fit b (List.mem_of_getElem? hbi)
    have f1 : b.1.length ≤ 20 := by omega
    have f2 : b.2.length ≤ 20 := f.2.2.1
    match us, lus with
    | [u1, u2], _ =>
      refine ⟨ca, _, rfl, SqT.of hca, rfl, _, _, rfl, _, _, rfl, rfl, [some (.str b.1), some (.str b.2)], rfl, rfl, ?_⟩
      refine ⟨[" ", b.1, ">", b.2], ⟨_, _, rfl, rfl, _, _, rfl, ⟨by omega, _, rfl, rfl, rfl⟩, _, _, rfl, rfl, _, _, rfl, ⟨by omega, _, rfl, rfl, rfl⟩, rfl⟩, ?_, fun _ => hK _ _ ⟨rfl, ?_⟩⟩
      · simp only [List.map_cons, List.map_nil, List.sum_cons, List.sum_nil, e1, e2]
        omega
      · rw [List.take_add_one, hbi, List.map_append, List.map_append] <;> rfl
  · rintro ys H' ⟨rfl, rfl⟩ l hl
    rw [el, List.take_length]
    have g1 := same_new hl (.lst ((bs.map bT).map V.str))
    have k1 : upd H' l (.lst ((bs.map bT).map V.str)) l = some (.lst ((bs.map bT).map V.str)) := upd_same
    show (tSeq _ _ : TS) _ _ (upd H' l (.lst ((bs.map bT).map V.str)))
    generalize upd H' l (.lst ((bs.map bT).map V.str)) = H1 at g1 k1 ⊢
    have b1 := joinE_len b42
    have b2 := sum_len b42
    rw [List.length_map] at b1 b2
    refine ⟨_, rfl, a, _, _, _, rfl, rfl, SqT.of (g1 _ _ h1), rfl, _, _, rfl, rfl, by rw [e5]; omega, _, _, rfl, rfl, by rw [len_app, e5, e1]; omega, _, rfl, a, _, _, _, rfl, rfl, SqT.of (g1 _ _ h1), rfl, pa, ph, rfl, .inr (SqT.of (g1 _ _ h2)), by rw [e1]; omega, _, _, rfl, rfl, by rw [len_app, len_app, e5, e1]; omega, rfl, _, rfl, _, l, bs.map bT, rfl, rfl, .inl (SqL.of k1), by rw [e0, List.length_map]; omega, _, _, rfl, rfl, by rw [len_app, len_app, len_app, e5, e1]; omega, ?_⟩
    have hl2 := head_len (cs' := bs) hok (by omega) fun b hb => hb
    rw [← head_join]
    refine ⟨_, rfl, _, _, rfl, rfl, by rw [e3]; omega, _, rfl, a, _, _, _, rfl, rfl, SqT.of (g1 _ _ h1), rfl, ma, ms, rfl, .inr (SqT.of (g1 _ _ h5)), l2, _, _, rfl, rfl, by rw [len_app, e3]; omega, ?_⟩
    exact q (by show (headOf sc ph bs ++ ": " ++ Str.join " " ms).length ≤ 5000; rw [len_app, len_app, e3]; omega) H1 g1
end
end D
namespace D
open PySem L2
def linesT : Th → List Str
  | .say n ws => [lineOf (.say n ws)]
  | .tell n sc ph bs ms => [lineOf (.tell n sc ph bs ms)]
  | .part _ i => ("part" : Str) :: (linesF i ++ [("end" : Str)])
theorem lines_flatT : ∀ f : F, linesF f = f.ths.flatMap linesT
  | .nil => rfl
  | .say n ws r => by
    show lineOf (.say n ws) :: linesF r = _
    rw [lines_flatT r] <;> rfl
  | .tell n sc ph bs ms r => by
    show lineOf (.tell n sc ph bs ms) :: linesF r = _
    rw [lines_flatT r] <;> rfl
  | .part n i r => by
    show ("part" : Str) :: (linesF i ++ (("end" : Str) :: linesF r)) = (("part" : Str) :: (linesF i ++ [("end" : Str)])) ++ r.ths.flatMap linesT
    rw [lines_flatT r, List.cons_append, List.append_assoc] <;> rfl
theorem take_lines {f : F} {i : Nat} {t : Th} (h : f.ths[i]? = some t) : (f.ths.take (i + 1)).flatMap linesT = (f.ths.take i).flatMap linesT ++ linesT t := by
  rw [List.take_add_one, h, List.flatMap_append]
  show _ ++ (linesT t ++ []) = _
  rw [List.append_nil]
theorem take_lines_le {f : F} (i : Nat) : ((f.ths.take i).flatMap linesT).length ≤ (linesF f).length := by
  rw [lines_flatT]
  conv => rhs; rw [← List.take_append_drop i f.ths, List.flatMap_append, List.length_append]
  omega
theorem ord_of_mem {t s : Th} : ∀ {f : F}, t ∈ f.ths → s ∈ t.ord → s ∈ f.ord := fun {f} h hs => by
  rw [ord_flat]
  exact List.mem_flatMap.mpr ⟨t, h, hs⟩
theorem sub_of_mem {t : Th} : ∀ {f : F}, t ∈ f.ths → t.sub.dep + 1 ≤ f.dep ∨ ¬ ∃ n i, t = .part n i
  | .say n ws r, h => by
    rcases List.mem_cons.mp h with e | e
    · exact .inr (fun ⟨_, _, z⟩ => by rw [e] at z; cases z)
    · exact sub_of_mem (f := r) e
  | .tell n sc ph bs ms r, h => by
    rcases List.mem_cons.mp h with e | e
    · exact .inr (fun ⟨_, _, z⟩ => by rw [e] at z; cases z)
    · exact sub_of_mem (f := r) e
  | .part n i r, h => by
    rcases List.mem_cons.mp h with e | e
    · subst e
      exact .inl (by show i.dep + 1 ≤ max (i.dep + 1) r.dep; omega)
    · rcases sub_of_mem (f := r) e with z | z
      · exact .inl (by show _ ≤ max (i.dep + 1) r.dep; omega)
      · exact .inr z
def spRows (d : Nat) : Sp := fun vs H Q _ => ∃ (v : V) (n : Int) (f : F), vs = [v] ∧ partR H n f v ∧ f.dep < d ∧ f.ord.length ≤ 200 ∧ (∀ t ∈ f.ord, TOk t) ∧ ∀ r H', Same H H' → H r = none → H' r = some (.lst ((linesF f).map V.str)) → Q (.ref r) H'
section
variable {P : Program} {w : World} {K : PySem.W.Frag} {mg : Str → Option Value} {base : Heap} {f : Addr} {fd : FuncData}
theorem scRows : FnScope ["part", "rows", "thing"] ["part"] (defScope s_rows_within) := ⟨rfl, rfl, rfl, by decide +kernel, rfl, by decide +kernel, by decide +kernel⟩
set_option maxHeartbeats 8000000 in
theorem rows_step {d : Nat} (F : Fun K "rows_within" "rows_within" s_rows_within f fd) (GT : Def P w K mg base CX0 1 "text_of" ["words"] (spText K)) (GR : Def P w K mg base CX0 2 "telling_row" ["telling"] spTRow) (G : Def P w K mg base CX0 (d + 2) "rows_within" ["part"] (spRows d)) : FnOk P w K mg base CX0 (d + 1 + 2) f fd ["part"] (spRows (d + 1)) := by
  refine F.ok scRows (fun vs H Q E h => ?_) (fun cdv A outer s H vs Q E hr h => ?_)
  · obtain ⟨v, n, fo, rfl, _⟩ := h
    rfl
  obtain ⟨v, n, fo, rfl, hv, hd, hlen, hok, q⟩ := h
  refine ⟨_, pss_cons (ps_set (i := 1) scRows.nd rfl (Or.inl rfl) (pe_lst pa_nil))
    (pss_cons (ps_for PassesOwn.never rfl (pi_tup (pe_ix ix_tup (pv 0) pe_int (fun _ _ => rfl))) (pg_name (i := 2) scRows.nd rfl (Or.inl rfl))
      (pss_one (ps_if (pt_cmpR op_eq (pe_ix ix_tup (pv 2) pe_int (fun _ _ => rfl)) pe_str (nomark _))
        (pss_cons (ps_expr (pe_bm PySem.F.plainAttrs_list PySem.F.slot_list_append PySem.F.type_list_append mt_append (pv 1) (pa_cons pe_str pa_nil)))
        (pss_cons (ps_expr (pe_bm PySem.F.plainAttrs_list PySem.F.slot_list_extend PySem.F.type_list_extend mt_extend (pv 1) (pa_cons (pe_def G hr (pa_cons (pv 2) pa_nil)) pa_nil)))
        (pss_one (ps_expr (pe_bm PySem.F.plainAttrs_list PySem.F.slot_list_append PySem.F.type_list_append mt_append (pv 1) (pa_cons pe_str pa_nil))))))
        (pss_one (ps_if (pt_cmpR op_eq (pe_ix ix_tup (pv 2) pe_int (fun _ _ => rfl)) pe_str (nomark _))
          (pss_one (ps_expr (pe_bm PySem.F.plainAttrs_list PySem.F.slot_list_append PySem.F.type_list_append mt_append (pv 1) (pa_cons (pe_def GR (hr.mono (by omega)) (pa_cons (pv 2) pa_nil)) pa_nil))))
          (pss_one (ps_expr (pe_bm PySem.F.plainAttrs_list PySem.F.slot_list_append PySem.F.type_list_append mt_append (pv 1) (pa_cons (pe_op op_add_str pe_str (pe_def GT (hr.mono (by omega)) (pa_cons (pe_ix ix_tup (pv 2) pe_int (fun _ _ => rfl)) pa_nil))) pa_nil)))))))))
    (pss_one (ps_ret (pv 1)))), ?_⟩
  have hb := big
  obtain ⟨da, db, zs0, rfl, h1, h2, h3⟩ := hv
  have hths := fR_iff.mp h3
  have hll := lines_len fo
  refine ⟨(by show 0 ≤ sizeLine; decide), fun l hl => ?_⟩
  have g1 := same_new hl (.lst [])
  have e1 : upd H l (.lst []) l = some (.lst []) := upd_same
  generalize upd H l (.lst []) = H1 at g1 e1 ⊢
  refine ⟨_, rfl, da, _, _, _, rfl, rfl, SqT.of (g1 _ _ h1), rfl, db, rfl, ⟨_, SqT.of (g1 _ _ h2)⟩, ?_⟩
  refine for_tup (K := K) (a := db) (xs := zs0) (fun i σ' H' => ∃ (u : Option V), σ' = [some (.ref da), some (.ref l), u] ∧ Same H H' ∧ H' l = some (.lst (((fo.ths.take i).flatMap linesT).map V.str))) ?_ (fun i σ' H' _ h => by obtain ⟨u, _, g, _⟩ := h; exact SqT.of (g _ _ h2)) ?_ ?_
  · exact ⟨none, rfl, g1, e1⟩
  · rintro i v σ' H' hi ⟨u, rfl, g, hl'⟩
    obtain ⟨th, hth, hv⟩ := paired_get hths hi
    have hmem := List.mem_of_getElem? hth
    have htok : TOk th := hok th (ord_of_mem hmem (by cases th <;> exact List.mem_cons_self))
    have v2 := hv.mono g.t
    have hsz := take_lines_le (f := fo) i
    have hsz1 := take_lines_le (f := fo) (i + 1)
    rw [take_lines hth, List.length_append] at hsz1
    have hxl : (((fo.ths.take i).flatMap linesT).map V.str).length = ((fo.ths.take i).flatMap linesT).length := List.length_map _
    rw [take_lines hth, List.map_append]
    generalize (fo.ths.take i).flatMap linesT = ls at hl' hsz hsz1 hxl ⊢
    cases th with
    | part pn k =>
      obtain ⟨va, pb, pz, rfl, w1, w2, w3⟩ := v2
      refine ⟨_, rfl, va, _, _, _, rfl, rfl, SqT.of w1, rfl, rfl, _, rfl, ?_⟩
      refine ite2 (fun _ => ?_) (fun z => absurd (decide_eq_true rfl) z)
      refine ⟨_, rfl, .inl ⟨rfl, _, SqL.of hl'⟩, l, _, _, rfl, rfl, hl', by omega, ?_⟩
      have k1 : TSame H' (upd H' l (.lst (ls.map V.str ++ [.str "part"]))) := TSame.lst hl'
      have kk : Same H (upd H' l (.lst (ls.map V.str ++ [.str "part"]))) := keep_upd hl g _
      have e2 : upd H' l (.lst (ls.map V.str ++ [.str "part"])) l = some (.lst (ls.map V.str ++ [.str "part"])) := upd_same
      generalize upd H' l (.lst (ls.map V.str ++ [.str "part"])) = H2 at k1 kk e2 ⊢
      have hdk : k.dep + 1 ≤ fo.dep := by
        rcases sub_of_mem (f := fo) hmem with z | z
        · exact z
        · exact absurd ⟨pn, k, rfl⟩ z
      have hko : ∀ s ∈ k.ord, s ∈ fo.ord := fun s hs => ord_of_mem hmem (List.mem_cons_of_mem _ hs)
      have hkl : k.ord.length ≤ fo.ord.length := by
        have e : (Th.part pn k).ord.length ≤ fo.ord.length := by
          rw [ord_flat fo]
          exact (List.sublist_flatten_of_mem (List.mem_map_of_mem hmem)).length_le
        have e2 : (Th.part pn k).ord.length = k.ord.length + 1 := rfl
        omega
      have hkm : ((linesF k).map V.str).length = (linesF k).length := List.length_map _
      have lk : (linesT (.part pn k)).length = (linesF k).length + 2 := by
        show (_ :: (linesF k ++ [_])).length = _
        rw [List.length_cons, List.length_append, List.length_singleton]
      refine ⟨_, rfl, .inl ⟨rfl, _, SqL.of e2⟩, _, rfl, .ref va, pn, k, rfl, ⟨va, pb, pz, rfl, k1 _ _ w1, k1 _ _ w2, fR_mono k1 w3⟩, by omega, by omega, fun s hs => hok s (hko s hs), fun r H3 g3 fr er => ?_⟩
      have e3 := g3 _ _ e2
      refine ⟨l, r, _, _, rfl, rfl, e3, er, by rw [List.length_append, List.length_singleton]; omega, ?_⟩
      have kk3 : Same H (upd H3 l (.lst (ls.map V.str ++ [.str "part"] ++ (linesF k).map V.str))) := keep_upd hl (kk.trans g3) _
      have e4 : upd H3 l (.lst (ls.map V.str ++ [.str "part"] ++ (linesF k).map V.str)) l = some (.lst (ls.map V.str ++ [.str "part"] ++ (linesF k).map V.str)) := upd_same
      generalize upd H3 l (.lst (ls.map V.str ++ [.str "part"] ++ (linesF k).map V.str)) = H4 at kk3 e4 ⊢
      refine ⟨_, rfl, .inl ⟨rfl, _, SqL.of e4⟩, l, _, _, rfl, rfl, e4, by rw [List.length_append, List.length_append, List.length_singleton]; omega, ?_⟩
      refine ⟨_, rfl, keep_upd hl kk3 _, ?_⟩
      rw [upd_same]
      have e9 : (linesT (.part pn k)).map V.str = [.str "part"] ++ ((linesF k).map V.str ++ [.str "end"]) := by
        show (_ :: (linesF k ++ [_])).map V.str = _
        rw [List.map_cons, List.map_append] <;> rfl
      rw [e9, List.append_assoc, List.append_assoc]
    | tell tn sc ph bs ms =>
      have v3 := v2
      obtain ⟨va, x, y, z, rfl, w1, _⟩ := v2
      refine ⟨_, rfl, va, _, _, _, rfl, rfl, SqT.of w1, rfl, rfl, _, rfl, ?_⟩
      refine ite2 (fun z => absurd z (by show ¬ decide (V.str "tell" = V.str "part") = true; decide)) (fun _ => ?_)
      refine ⟨_, rfl, va, _, _, _, rfl, rfl, SqT.of w1, rfl, rfl, _, rfl, ?_⟩
      refine ite2 (fun _ => ?_) (fun z => absurd (decide_eq_true rfl) z)
      refine ⟨_, rfl, .inl ⟨rfl, _, SqL.of hl'⟩, _, rfl, tn, sc, ph, bs, ms, _, rfl, v3, htok, fun _ H2 g2 => ?_⟩
      have e2 := g2 _ _ hl'
      refine ⟨l, _, _, rfl, rfl, e2, by omega, _, rfl, keep_upd hl (g.trans g2) _, ?_⟩
      rw [upd_same] <;> rfl
    | say sn ws =>
      obtain ⟨va, x, rfl, w1, wb, rfl, w2⟩ := v2
      obtain ⟨l1, l2⟩ := rw_len htok
      have e4 : ("say " : Str).length = 4 := by decide +kernel
      refine ⟨_, rfl, va, _, _, _, rfl, rfl, SqT.of w1, rfl, rfl, _, rfl, ?_⟩
      refine ite2 (fun z => absurd z (by show ¬ decide (V.str "say" = V.str "part") = true; decide)) (fun _ => ?_)
      refine ⟨_, rfl, va, _, _, _, rfl, rfl, SqT.of w1, rfl, rfl, _, rfl, ?_⟩
      refine ite2 (fun z => absurd z (by show ¬ decide (V.str "say" = V.str "tell") = true; decide)) (fun _ => ?_)
      refine ⟨_, rfl, .inl ⟨rfl, _, SqL.of hl'⟩, _, rfl, va, _, _, _, rfl, rfl, SqT.of w1, rfl, wb, ws, rfl, .inr (SqT.of w2), l2, _, _, rfl, rfl, by rw [e4]; omega, ?_⟩
      refine ⟨l, _, _, rfl, rfl, hl', by omega, _, rfl, keep_upd hl g _, ?_⟩
      rw [upd_same] <;> rfl
  · rintro σ' H' ⟨u, rfl, g, hl'⟩
    have el : zs0.length = fo.ths.length := (paired_len hths).symm
    rw [el, List.take_length, ← lines_flatT] at hl'
    exact ⟨_, rfl, q l H' g hl hl'⟩
theorem ok_rows (F : Fun K "rows_within" "rows_within" s_rows_within f fd) (b : Binds K fd ["part"] []) (kp : PySem.W.keepIn K (.ref f) = true) (hm : mg "rows_within" = some (.ref f)) (GT : Def P w K mg base CX0 1 "text_of" ["words"] (spText K)) (GR : Def P w K mg base CX0 2 "telling_row" ["telling"] spTRow) : ∀ d, FnOk P w K mg base CX0 (d + 2) f fd ["part"] (spRows d)
  | 0 => fnok_false fun vs H Q E ⟨v, n, fo, _, _, hd, _⟩ => absurd hd (Nat.not_lt_zero _)
  | d + 1 => rows_step F GT GR (Def.mk' (ok_rows F b kp hm GT GR d) b kp hm)
theorem scWr : FnScope ["doc"] ["doc"] (defScope s_written) := ⟨rfl, rfl, rfl, by decide +kernel, rfl, by decide +kernel, by decide +kernel⟩
theorem ok_written (F : Fun K "written" "written" s_written f fd) (GR : Def P w K mg base CX0 13 "rows_within" ["part"] (spRows 11)) : FnOk P w K mg base CX0 14 f fd ["doc"] spWritten := by
  refine F.ok scWr (fun vs H Q E h => ?_) (fun cdv A outer s H vs Q E hr h => ?_)
  · obtain ⟨v, fo, rfl, _⟩ := h
    rfl
  obtain ⟨v, fo, rfl, hv, hok, q⟩ := h
  refine ⟨_, pss_one (ps_ret (pe_bm PySem.F.plainAttrs_str PySem.F.slot_str_join PySem.F.type_str_join mt_join pe_str (pa_cons (pe_def GR hr (pa_cons (pv 0) pa_nil)) pa_nil))), ?_⟩
  have hd := hok.dep
  refine ⟨rfl, _, rfl, v, 0, fo, rfl, hv, by omega, hok.len, hok.ok, fun r H1 g1 _ er => ?_⟩
  exact ⟨_, r, linesF fo, rfl, rfl, .inl (SqL.of er), hok.join, q H1 g1⟩
end
end D
namespace D
open PySem L2
theorem cs_joinM (s x y : Str) (r : List Str) : cs (Str.join s (x :: y :: r)) = cs x ++ (cs s ++ cs (Str.join s (y :: r))) := by
  show cs (x ++ s ++ Str.join s (y :: r)) = _
  rw [cs_app, cs_app, List.append_assoc]
theorem cs_oneM (c : Nat) : cs (one c) = [c] := rfl
theorem join_injM {c : Nat} : ∀ {ys zs : List Str}, ys ≠ [] → zs ≠ [] → (∀ y ∈ ys, c ∉ cs y) → (∀ z ∈ zs, c ∉ cs z) → cs (Str.join (one c) ys) = cs (Str.join (one c) zs) → ys = zs
  | [], _, h, _, _, _, _ => absurd rfl h
  | _ :: _, [], _, h, _, _, _ => absurd rfl h
  | [y], [z], _, _, _, _, h => by rw [str_ext (x := y) (y := z) h]
  | [y], z :: z2 :: r, _, _, hy, _, h => by
    rw [cs_joinM] at h
    refine absurd ?_ (hy y List.mem_cons_self)
    rw [show cs y = _ from h, cs_oneM]
    simp
  | y :: y2 :: r, [z], _, _, _, hz, h => by
    rw [cs_joinM] at h
    refine absurd ?_ (hz z List.mem_cons_self)
    rw [show cs z = _ from h.symm, cs_oneM]
    simp
  | y :: y2 :: r, z :: z2 :: r', _, _, hy, hz, h => by
    rw [cs_joinM, cs_joinM] at h
    obtain ⟨e1, e2⟩ := cut_unique h (hy y List.mem_cons_self) (hz z List.mem_cons_self)
    rw [str_ext e1, join_injM (ys := y2 :: r) (zs := z2 :: r') (by simp) (by simp) (fun p hp => hy p (List.mem_cons_of_mem _ hp)) (fun p hp => hz p (List.mem_cons_of_mem _ hp)) e2]
theorem split_ne (x s : Str) : Txt.split x s ≠ [] := by
  unfold Txt.split
  split
  · simp
  · split
    · simp
    · intro h
      have z := congrArg List.length h
      rw [length_partsBetween] at z
      cases z
theorem split_join {c : Nat} {ys : List Str} (h : ys ≠ []) (hf : ∀ y ∈ ys, c ∉ cs y) : Txt.split (Str.join (one c) ys) (one c) = ys :=
  join_injM (c := c) (split_ne _ _) h (StrLaws.split_free _ c) hf (congrArg cs (StrLaws.join_split _ (one c)))
theorem good_free {x : Str} {c : Nat} (h : allGood x) (hc : good c = false) : c ∉ cs x := fun z => by
  have := List.all_eq_true.mp h c z
  rw [hc] at this
  cases this
theorem sumM {m : Nat} : ∀ {ys : List Str}, (∀ y ∈ ys, y.length ≤ m) → (Str.join " " ys).length ≤ (m + 1) * ys.length
  | [], _ => Nat.zero_le _
  | [y], h => by
    have := h y List.mem_cons_self
    show y.length ≤ _
    rw [List.length_singleton]
    omega
  | y :: y2 :: r, h => by
    have a := h y List.mem_cons_self
    have b := sumM (ys := y2 :: r) fun z hz => h z (List.mem_cons_of_mem _ hz)
    have e1 : (" " : Str).length = 1 := by decide +kernel
    show (y ++ " " ++ Str.join " " (y2 :: r)).length ≤ _
    rw [len_app, len_app, e1, List.length_cons, Nat.mul_add]
    omega
theorem Rw.text {ws : List Str} (h : Rw ws) : (Str.join " " ws).length ≤ 4200 := by
  have := sumM (m := 20) fun y hy => (h.2.2 y hy).2.1
  have := h.2.1
  omega
theorem Rw.split {ws : List Str} (h : Rw ws) : Txt.split (Str.join " " ws) " " = ws := by
  refine split_join (c := 32) ?_ fun y hy => good_free (h.2.2 y hy).2.2 (by decide)
  intro z
  have := h.1
  rw [z] at this
  cases this
def isW (x : Str) : Bool := decide (1 ≤ x.length) && decide (x.length ≤ 20) && x.cps.toList.all good
theorem isW_wd {x : Str} (h : Wd x) : isW x = true := by
  unfold isW
  rw [decide_eq_true h.1, decide_eq_true h.2.1, show x.cps.toList.all good = true from h.2.2] <;> rfl
theorem good_iff (c : Nat) : decide (c ∈ W62.cps.toList) = good c := by
  by_cases h : c < 128
  · have all : ∀ c : _root_.Fin 128, decide (c.val ∈ W62.cps.toList) = good c.val := by decide +kernel
    exact all ⟨c, h⟩
  · have l : ∀ d ∈ W62.cps.toList, d < 128 := by decide +kernel
    have h1 : c ∉ W62.cps.toList := fun z => h (l c z)
    have h2 : good c = false := by
      unfold good
      rw [decide_eq_false (show ¬ c ≤ 122 by omega), decide_eq_false (show ¬ c ≤ 90 by omega), decide_eq_false (show ¬ c ≤ 57 by omega)]
      simp
    rw [decide_eq_false h1, h2]
structure Tw (K : PySem.W.Frag) (mg : Str → Option Value) : Prop where
  len : mg "len" = none
  isi : mg "isinstance" = none
  str : mg "str" = none
  all : mg "all" = none
  tuple : mg "tuple" = none
  enum : mg "enumerate" = none
  most : ∃ t, mg "MOST_SIGNS" = some (.int 20 t)
  signs : ∃ t, mg "WORD_SIGNS" = some (.str W62 t)
  words : ∃ t, mg "MOST_WORDS" = some (.int 200 t)
  phrase : ∃ t, mg "MOST_PHRASE_WORDS" = some (.int 4 t)
  bends : ∃ t, mg "MOST_BENDS" = some (.int 5 t)
  deep : ∃ t, mg "DEEPEST_PART" = some (.int 8 t)
  kS : PySem.W.kitOne K (.type "str") (.type "str") = some true
def spWord : Sp := fun vs H Q _ => ∃ x : Str, vs = [.str x] ∧ x.length ≤ sizeLine ∧ ∀ H', Same H H' → Q (.bl (isW x)) H'
def spWO : Sp := fun vs H Q _ => ∃ ws : List Str, vs = [.str (Str.join " " ws)] ∧ Rw ws ∧ ∀ r H', Same H H' → H' r = some (.tup (ws.map V.str)) → Q (.ref r) H'
section
variable {P : Program} {w : World} {K : PySem.W.Frag} {mg : Str → Option Value} {base : Heap} {f : Addr} {fd : FuncData}
theorem scWord : FnScope ["thing"] ["thing"] (defScope s_is_word) := ⟨rfl, rfl, rfl, by decide +kernel, rfl, by decide +kernel, by decide +kernel⟩
theorem ok_word (F : Fun K "is_word" "is_word" s_is_word f fd) (T : Tw K mg) : FnOk P w K mg base CX0 1 f fd ["thing"] spWord := by
  refine F.ok scWord (fun vs H Q E h => ?_) (fun cdv A outer s H vs Q E hr h => ?_)
  · obtain ⟨v, rfl, _⟩ := h
    rfl
  obtain ⟨x, rfl, hz, q⟩ := h
  obtain ⟨tm, hm⟩ := T.most
  obtain ⟨tw, hw⟩ := T.signs
  refine ⟨_, pss_cons (ps_if (pt_not (pt_val (pe_callB call_isi rfl T.isi PyProof.Rows.boot_isinstance (pa_cons (pv 0) (pa_cons (pe_bltn (v := .ty "str") rfl T.str PyProof.Rows.boot_str rfl) pa_nil))))) (pss_one (ps_ret pe_bl)) pss_nil)
    (pss_cons (ps_if (PW.pt (pw_or (pt_cmpR op_lt (pe_callB call_len_str rfl T.len PySem.boot_len (pa_cons (pv 0) pa_nil)) pe_int (nomark _)) (pw_or1 (pt_cmpR op_gt (pe_callB call_len_str rfl T.len PySem.boot_len (pa_cons (pv 0) pa_nil)) (pe_glob (v := .int 20) rfl hm ⟨_, rfl⟩) (nomark _))))) (pss_one (ps_ret pe_bl)) pss_nil)
    (pss_one (ps_ret (pe_callB (call_all_bools rfl) rfl T.all PyProof.Rows.boot_all (pa_cons (pe_comp ["thing"] (defScope s_is_word) rfl (by decide +kernel) (by decide +kernel) (pi_str (pv 0)) (fun _ _ _ _ _ => pts_nil)
      (fun _ _ _ _ _ => pe_cmpR op_in_str (pv 1) (pe_glob (v := .str W62) rfl hw ⟨_, rfl⟩) (by with_unfolding_all rfl))) pa_nil))))), ?_⟩
  refine ⟨_, rfl, _, _, _, _, true, rfl, rfl, .str x, T.kS, _, rfl, ?_⟩
  refine iteF ?_
  refine ⟨_, rfl, x, rfl, hz, _, _, rfl, rfl, _, rfl, ?_⟩
  refine ite2 (fun c => ?_) (fun c => ?_)
  · have c' : (x.length : Int) < 1 := of_decide_eq_true c
    refine iteT ?_
    have e : isW x = false := by
      unfold isW
      rw [decide_eq_false (show ¬ 1 ≤ x.length by omega)] <;> rfl
    rw [e] at q
    exact q H (Same.refl H)
  · have c' : ¬ (x.length : Int) < 1 := of_decide_eq_false (Bool.eq_false_iff.mpr c)
    refine ⟨_, rfl, x, rfl, hz, _, _, rfl, rfl, _, rfl, ?_⟩
    refine ite2 (fun d => ?_) (fun d => ?_)
    · have d' : (20 : Int) < (x.length : Int) := of_decide_eq_true d
      have e : isW x = false := by
        unfold isW
        rw [decide_eq_false (show ¬ x.length ≤ 20 by omega), Bool.and_false] <;> rfl
      rw [e] at q
      exact q H (Same.refl H)
    · have d' : ¬ (20 : Int) < (x.length : Int) := of_decide_eq_false (Bool.eq_false_iff.mpr d)
      have hl : (x.cps.toList.map fun c => V.bl (good c)).length = x.length := by simp [Str.length]
      refine ⟨_, rfl, x, rfl, ?_⟩
      refine comprd_by (x.cps.toList.map fun c => V.bl (good c)) (fun _ H' => H' = H) (by rw [hl]; exact hz) rfl (fun i H' hi _ => by rw [hl] at hi; exact hi) (fun H' _ => by rw [hl]; exact Nat.le_refl _) ?_ ?_ ?_
      · rintro i y H1 v' H2 hy rfl ⟨rfl, c, hc, rfl⟩
        rw [List.getElem?_map, hc] at hy
        cases hy
        refine ⟨_, rfl, one c, W62, rfl, rfl, ?_, rfl⟩
        rw [StrLaws.found_one, good_iff]
      · rintro H1 rfl p hp
        refine ⟨p, x.cps.toList.map good, rfl, ?_, ?_⟩
        · rw [upd_same, List.map_map] <;> rfl
        · have e : isW x = (x.cps.toList.map good).all id := by
            unfold isW
            rw [decide_eq_true (show 1 ≤ x.length by omega), decide_eq_true (show x.length ≤ 20 by omega), List.all_map] <;> rfl
          rw [e] at q
          exact q _ (same_new hp _)
      · rintro σ' H1 Q1 Q2 hq ⟨u, hu, i, j, e1, e2, z⟩
        exact ⟨u, hu, i, j, e1, e2, hq _ _ z⟩
theorem scWO : FnScope ["text", "pieces", "piece"] ["text"] (defScope s_words_of) := ⟨rfl, rfl, rfl, by decide +kernel, rfl, by decide +kernel, by decide +kernel⟩
set_option maxHeartbeats 4000000 in
theorem ok_wo (F : Fun K "words_of" "words_of" s_words_of f fd) (T : Tw K mg) (GW : Def P w K mg base CX0 1 "is_word" ["thing"] spWord) : FnOk P w K mg base CX0 2 f fd ["text"] spWO := by
  refine F.ok scWO (fun vs H Q E h => ?_) (fun cdv A outer s H vs Q E hr h => ?_)
  · obtain ⟨x, rfl, _⟩ := h
    rfl
  obtain ⟨ws, rfl, hw, q⟩ := h
  refine ⟨_, pss_cons (ps_set (i := 1) scWO.nd rfl (Or.inl rfl) (pe_bm PySem.F.plainAttrs_str PySem.F.slot_str_split PySem.F.type_str_split mt_split (pv 0) (pa_cons pe_str pa_nil)))
    (pss_cons (ps_for PassesOwn.never rfl (pi_list (pv 1)) (pg_name (i := 2) scWO.nd rfl (Or.inl rfl))
      (pss_one (ps_if (pt_not (pt_val (pe_def GW hr (pa_cons (pv 2) pa_nil)))) pss_never pss_nil)))
    (pss_one (ps_ret (pe_callTy call_tuple_of rfl T.tuple PyProof.Rows.boot_tuple (pa_cons (pv 1) pa_nil))))), ?_⟩
  have hb := big
  have ht := hw.text
  refine ⟨_, rfl, rfl, Str.join " " ws, " ", rfl, rfl, by decide +kernel, by omega, fun p hp => ?_⟩
  rw [hw.split]
  have g0 := same_new hp (.lst (ws.map V.str))
  have h0 : upd H p (.lst (ws.map V.str)) p = some (.lst (ws.map V.str)) := upd_same
  generalize upd H p (.lst (ws.map V.str)) = H1 at g0 h0
  refine ⟨_, rfl, p, rfl, ⟨_, SqL.of h0⟩, ?_⟩
  refine for_list (K := K) (a := p) (xs := ws.map V.str) (fun i σ' H' => Same H1 H' ∧ ∃ v, σ' = [some (.str (Str.join " " ws)), some (.ref p), v]) ?_ (fun i σ' H' _ h => SqL.of (h.1 _ _ h0)) ?_ ?_
  · exact ⟨Same.refl _, none, rfl⟩
  · rintro i y σ' H' hi ⟨g1, v, rfl⟩
    rw [List.getElem?_map] at hi
    cases hy : ws[i]? with
    | none => rw [hy] at hi; cases hi
    | some z =>
      rw [hy] at hi
      cases hi
      have hm := hw.2.2 z (List.mem_of_getElem? hy)
      have := hm.2.1
      refine ⟨_, rfl, _, rfl, by omega, fun H2 g2 => ⟨_, rfl, ?_⟩⟩
      rw [isW_wd hm]
      exact iteF ⟨g1.trans g2, _, rfl⟩
  · rintro σ' H' ⟨g1, v, rfl⟩
    refine ⟨_, rfl, p, _, rfl, .inl ⟨SqL.of (g1 _ _ h0), fun r hr1 => ?_⟩⟩
    exact q r _ (g0.trans (g1.trans (same_new hr1 _))) upd_same
theorem scRWs : FnScope ["text", "words"] ["text"] (defScope s_read_words) := ⟨rfl, rfl, rfl, by decide +kernel, rfl, by decide +kernel, by decide +kernel⟩
theorem ok_rws {CN : Addr} (F : Fun K "read_words" "read_words" s_read_words f fd) (T : Tw K mg) (mN : mg "NoWord" = some (.ref CN)) (GO : Def P w K mg base CX0 2 "words_of" ["text"] spWO) : FnOk P w K mg base (CXX P w) 3 f fd ["text"] spWO := by
  refine F.okX scRWs (fun vs H Q E h => ?_) (fun cdv A outer s H vs Q E hr h => ?_)
  · obtain ⟨x, rfl, _⟩ := h
    rfl
  obtain ⟨ws, rfl, hw, q⟩ := h
  obtain ⟨tm, hm⟩ := T.words
  refine ⟨_, pss_cons (ps_try (Ex := fun _ _ _ => False) rfl rfl rfl mN
      (fun pn E' hp => pss_one (ps_set (i := 1) scRWs.nd rfl (Or.inl rfl) (pe_defE (E := fun _ _ _ => False) GO.anyCX (hr.mono (by decide)) hp (pa_cons (pv 0) pa_nil))))
      (fun e => pss_never))
    (pss_one (ps_ret (pe_ifExp (pt_cmpR op_le (pe_callB call_len_seq rfl T.len PySem.boot_len (pa_cons (pv 1) pa_nil)) (pe_glob (v := .int 200) rfl hm ⟨_, rfl⟩) (nomark _)) (pv 1) pe_non))), ?_⟩
  refine ⟨fun C d H' σ' hE _ => hE.elim, ?_⟩
  refine ⟨_, rfl, ws, rfl, hw, fun r H1 g1 h1 => ?_⟩
  refine ⟨_, rfl, r, _, rfl, .inr (SqT.of h1), _, _, rfl, rfl, _, rfl, ?_⟩
  refine ite2 (fun _ => ?_) (fun d => absurd (decide_eq_true ?_) d)
  · exact ⟨_, rfl, q r H1 g1 h1⟩
  · rw [List.length_map]
    have := hw.2.1
    omega
end
end D
namespace D
open PySem L2
theorem cutV_toM (xs : List V) {k : Int} (h : 0 ≤ k) : cutV xs none (some k) = xs.take k.toNat := by
  unfold cutV
  have e : HT.sIx xs.length xs.length (some k) = min k.toNat xs.length := by
    show (if k < 0 then _ else min k.toNat xs.length) = _
    rw [if_neg (by omega)]
  rw [e]
  show (xs.drop 0).take (min k.toNat xs.length - 0) = _
  rw [List.drop_zero, Nat.sub_zero]
  by_cases hk : k.toNat ≤ xs.length
  · rw [Nat.min_eq_left hk]
  · rw [Nat.min_eq_right (by omega), List.take_length, List.take_of_length_le (by omega)]
theorem cutV_fromM (xs : List V) {k : Int} (h : 0 ≤ k) : cutV xs (some k) none = xs.drop k.toNat := by
  unfold cutV
  have e : HT.sIx xs.length 0 (some k) = min k.toNat xs.length := by
    show (if k < 0 then _ else min k.toNat xs.length) = _
    rw [if_neg (by omega)]
  have e2 : HT.sIx xs.length xs.length none = xs.length := rfl
  rw [e, e2]
  by_cases hk : k.toNat ≤ xs.length
  · rw [Nat.min_eq_left hk, List.take_of_length_le (by rw [List.length_drop]; omega)]
  · rw [Nat.min_eq_right (by omega), List.drop_length, List.take_nil, List.drop_of_length_le (by omega)]
theorem comp_listM {K : PySem.W.Frag} {a : Addr} {xs : List V} {te : TE} {fin : List V → Hp → Prop} {σ : St} {H : Hp} (Pv : Nat → List V → Hp → Prop) (hz : xs.length ≤ sizeLine) (h0 : Pv 0 [] H) (hl : ∀ i ys H, i ≤ xs.length → Pv i ys H → SqL K H a xs ∧ ys.length ≤ i)
    (hs : ∀ i x ys H, xs[i]? = some x → Pv i ys H → ∀ (KY : V → Hp → Prop), (∀ y H3, Pv (i + 1) (ys ++ [y]) H3 → KY y H3) → te (σ ++ [some x]) H KY)
    (hd : ∀ ys H, Pv xs.length ys H → fin ys H) : CompRd (Itl K a) tYes te fin σ H := by
  refine ⟨fun i m ys H => m = xs.length - i ∧ i ≤ xs.length ∧ Pv i ys H, ⟨xs.length, by simp, Nat.zero_le _, h0⟩, ?_⟩
  rintro i m ys H ⟨rfl, hi, p⟩
  obtain ⟨q, hy⟩ := hl i ys H hi p
  by_cases hlt : i < xs.length
  · refine .inr ⟨⟨xs, xs[i], q, by simp [hlt]⟩, fun x H' y => ?_⟩
    obtain ⟨e, y⟩ := y
    subst e
    unfold tYes
    dsimp only
    rw [if_pos rfl]
    exact hs i x ys _ (y xs q) p _ fun z H3 p3 => ⟨by omega, xs.length - (i + 1), by omega, rfl, hlt, p3⟩
  · have e : i = xs.length := by omega
    subst e
    exact .inl ⟨⟨xs, q, Nat.le_refl _⟩, hd ys H p⟩
theorem paired_snocM {α β : Type} {F : α → β → Prop} {a : α} {b : β} : ∀ {l : List α} {m : List β}, Paired F l m → F a b → Paired F (l ++ [a]) (m ++ [b])
  | _, _, .nil, h => .cons h .nil
  | _ :: _, _ :: _, .cons q r, h => .cons q (paired_snocM r h)
theorem paired_lenM {α β : Type} {F : α → β → Prop} : ∀ {l : List α} {m : List β}, Paired F l m → l.length = m.length
  | _, _, .nil => rfl
  | _ :: _, _ :: _, .cons _ r => by rw [List.length_cons, List.length_cons, paired_lenM r]
theorem while_post {tc : TT} {tb : TS} {D : Ends} {σ : St} {H : Hp} (W : Nat → St → Hp → Prop) (Post : St → Hp → Prop) (h0 : ∃ m, W m σ H)
    (hs : ∀ R : St → Hp → Prop, (∀ σ H, Post σ H → R σ H) → ∀ m σ H, W m σ H → tc σ H fun b H1 => if b = true then ∃ N : St → Hp → Prop, (∀ σ' H', N σ' H' → ∃ m', m' < m ∧ W m' σ' H') ∧ tb { D with nx := N, ct := N, bk := D.nx } σ H1 else R σ H1)
    (hp : ∀ σ H, Post σ H → D.nx σ H) : tWhile tc tb D σ H := ⟨W, h0, fun m σ H hw => hs D.nx hp m σ H hw⟩
def bX (b : Str × Str) : Str := Str.join ">" [b.1, b.2]
def BdOk (b : Str × Str) : Prop := b.1.length ≤ 20 ∧ b.2.length ≤ 20 ∧ allGood b.1 ∧ allGood b.2
theorem cs_bX (b : Str × Str) : cs (bX b) = cs b.1 ++ 62 :: cs b.2 := by
  show cs (b.1 ++ ">" ++ b.2) = _
  have e : cs (">" : Str) = [62] := by decide +kernel
  rw [cs_app, cs_app, e, List.append_assoc] <;> rfl
theorem bX_len {b : Str × Str} (h : BdOk b) : (bX b).length ≤ 41 := by
  rw [← cs_len, cs_bX, List.length_append, List.length_cons, cs_len, cs_len]
  have := h.1
  have := h.2.1
  omega
theorem isW_bX (b : Str × Str) : isW (bX b) = false := by
  rw [Bool.eq_false_iff]
  intro h
  unfold isW at h
  simp only [Bool.and_eq_true] at h
  have m : 62 ∈ (bX b).cps.toList := by
    show 62 ∈ cs (bX b)
    rw [cs_bX]
    simp
  exact absurd (List.all_eq_true.mp h.2 62 m) (by decide)
theorem bX_split {b : Str × Str} (h : BdOk b) : Txt.split (bX b) ">" = [b.1, b.2] := by
  refine split_join (c := 62) (by simp) fun y hy => ?_
  simp only [List.mem_cons, List.not_mem_nil, or_false] at hy
  rcases hy with rfl | rfl
  · exact good_free h.2.2.1 (by decide)
  · exact good_free h.2.2.2 (by decide)
theorem isW_side {y : Str} (h : y.length ≤ 20) (g : allGood y) : y = "" ∨ isW y = true := by
  by_cases z : 1 ≤ y.length
  · exact .inr (isW_wd ⟨z, h, g⟩)
  · refine .inl (str_ext ?_)
    have e : cs ("" : Str) = [] := by decide +kernel
    rw [e]
    refine List.length_eq_zero_iff.mp ?_
    rw [cs_len]
    omega
def spRB : Sp := fun vs H Q _ => ∃ b : Str × Str, vs = [.str (bX b)] ∧ BdOk b ∧ ∀ r H', Same H H' → H' r = some (.tup [.str b.1, .str b.2]) → Q (.ref r) H'
def spRPB : Sp := fun vs H Q _ => ∃ (a : Addr) (ph : List Str) (bs : List (Str × Str)), vs = [.ref a] ∧ H a = some (.lst ((ph ++ bs.map bX).map V.str)) ∧ 1 ≤ ph.length ∧ ph.length ≤ 4 ∧ (∀ x ∈ ph, Wd x) ∧ bs.length ≤ 5 ∧ (∀ b ∈ bs, BdOk b) ∧
  ∀ r x y H', Same H H' → H' r = some (.tup [x, y]) → wR H' ph x → bR H' bs y → Q (.ref r) H'
section
variable {P : Program} {w : World} {K : PySem.W.Frag} {mg : Str → Option Value} {base : Heap} {f : Addr} {fd : FuncData}
theorem scRB : FnScope ["piece", "sides", "side"] ["piece"] (defScope s_read_bend) := ⟨rfl, rfl, rfl, by decide +kernel, rfl, by decide +kernel, by decide +kernel⟩
set_option maxHeartbeats 4000000 in
theorem ok_rb (F : Fun K "read_bend" "read_bend" s_read_bend f fd) (T : Tw K mg) (GW : Def P w K mg base CX0 1 "is_word" ["thing"] spWord) : FnOk P w K mg base CX0 2 f fd ["piece"] spRB := by
  refine F.ok scRB (fun vs H Q E h => ?_) (fun cdv A outer s H vs Q E hr h => ?_)
  · obtain ⟨x, rfl, _⟩ := h
    rfl
  obtain ⟨b, rfl, hb0, q⟩ := h
  refine ⟨_, pss_cons (ps_set (i := 1) scRB.nd rfl (Or.inl rfl) (pe_bm PySem.F.plainAttrs_str PySem.F.slot_str_split PySem.F.type_str_split mt_split (pv 0) (pa_cons pe_str pa_nil)))
    (pss_cons (ps_if (pt_cmpR op_ne (pe_callB call_len_seq rfl T.len PySem.boot_len (pa_cons (pv 1) pa_nil)) pe_int (nomark _)) pss_never pss_nil)
    (pss_cons (ps_for PassesOwn.never rfl (pi_list (pv 1)) (pg_name (i := 2) scRB.nd rfl (Or.inl rfl))
      (pss_one (ps_if (PW.pt (pw_and (pt_cmpR op_ne (pv 2) pe_str (nomark _)) (pw_and1 (pt_not (pt_val (pe_def GW hr (pa_cons (pv 2) pa_nil))))))) pss_never pss_nil)))
    (pss_one (ps_ret (pe_callTy call_tuple_of rfl T.tuple PyProof.Rows.boot_tuple (pa_cons (pv 1) pa_nil)))))), ?_⟩
  have hb := big
  have ht := bX_len hb0
  refine ⟨_, rfl, rfl, bX b, ">", rfl, rfl, by decide +kernel, by omega, fun p hp => ?_⟩
  rw [bX_split hb0]
  have g0 := same_new hp (.lst ([b.1, b.2].map V.str))
  have h0 : upd H p (.lst ([b.1, b.2].map V.str)) p = some (.lst ([b.1, b.2].map V.str)) := upd_same
  generalize upd H p (.lst ([b.1, b.2].map V.str)) = H1 at g0 h0
  refine ⟨_, rfl, p, _, rfl, .inl (SqL.of h0), rfl, _, rfl, ?_⟩
  refine ite2 (fun z => absurd z (show ¬ (!decide (V.int ((2 : Nat) : Int) = V.int 2)) = true by decide)) (fun _ => ?_)
  refine ⟨_, rfl, p, rfl, ⟨_, SqL.of h0⟩, ?_⟩
  refine for_list (K := K) (a := p) (xs := [b.1, b.2].map V.str) (fun i σ' H' => Same H1 H' ∧ ∃ v, σ' = [some (.str (bX b)), some (.ref p), v]) ?_ (fun i σ' H' _ h => SqL.of (h.1 _ _ h0)) ?_ ?_
  · exact ⟨Same.refl _, none, rfl⟩
  · rintro i y σ' H' hi ⟨g1, v, rfl⟩
    rw [List.getElem?_map] at hi
    cases hy : [b.1, b.2][i]? with
    | none => rw [hy] at hi; cases hi
    | some z =>
      rw [hy] at hi
      cases hi
      have hm : z.length ≤ 20 ∧ allGood z := by
        have m := List.mem_of_getElem? hy
        simp only [List.mem_cons, List.not_mem_nil, or_false] at m
        rcases m with rfl | rfl
        · exact ⟨hb0.1, hb0.2.2.1⟩
        · exact ⟨hb0.2.1, hb0.2.2.2⟩
      refine ⟨_, rfl, rfl, _, rfl, ?_⟩
      refine ite2 (fun c => ?_) (fun _ => iteF ⟨g1, _, rfl⟩)
      have hz1 := hm.1
      refine ⟨_, rfl, _, rfl, by omega, fun H2 g2 => ⟨_, rfl, ?_⟩⟩
      rcases isW_side hm.1 hm.2 with e | e
      · rw [e] at c
        exact absurd c (by decide)
      · rw [e]
        exact iteF ⟨g1.trans g2, _, rfl⟩
  · rintro σ' H' ⟨g1, v, rfl⟩
    refine ⟨_, rfl, p, _, rfl, .inl ⟨SqL.of (g1 _ _ h0), fun r hr1 => ?_⟩⟩
    exact q r _ (g0.trans (g1.trans (same_new hr1 _))) upd_same
abbrev NPB : List Str := ["pieces", "many", "bends"]
theorem scRPB : FnScope NPB ["pieces"] (defScope s_read_phrase_and_bends) := ⟨rfl, rfl, rfl, by decide +kernel, rfl, by decide +kernel, by decide +kernel⟩
set_option maxHeartbeats 8000000 in
theorem ok_rpb (F : Fun K "read_phrase_and_bends" "read_phrase_and_bends" s_read_phrase_and_bends f fd) (T : Tw K mg) (GW : Def P w K mg base CX0 1 "is_word" ["thing"] spWord) (GB : Def P w K mg base CX0 2 "read_bend" ["piece"] spRB) : FnOk P w K mg base CX0 3 f fd ["pieces"] spRPB := by
  refine F.ok scRPB (fun vs H Q E h => ?_) (fun cdv A outer s H vs Q E hr h => ?_)
  · obtain ⟨a, ph, bs, rfl, _⟩ := h
    rfl
  obtain ⟨a, ph, bs, rfl, ha, n1, n4, hph, n5, hbs, q⟩ := h
  obtain ⟨tp, hp4⟩ := T.phrase
  obtain ⟨tb, hb5⟩ := T.bends
  have hu : (A.deeper (PyProof.Rows.envOfC "read_phrase_and_bends" (defScope s_read_phrase_and_bends) s.heap.objs.size f cdv)).in1.units < cLine := by
    have := hr.units
    show (A.deeper (PyProof.Rows.envOfC "read_phrase_and_bends" (defScope s_read_phrase_and_bends) s.heap.objs.size f cdv)).units + 1 < cLine
    omega
  refine ⟨_, pss_cons (ps_set (i := 1) scRPB.nd rfl (Or.inl rfl) pe_int)
    (pss_cons (ps_while PassesOwn.never (PW.pt (pw_and (pt_cmpR op_lt (pv 1) (pe_callB call_len_seq rfl T.len PySem.boot_len (pa_cons (pv 0) pa_nil)) (nomark _)) (pw_and1 (pt_val (pe_def GW (hr.mono (by decide)) (pa_cons (pe_ix ix_list (pv 0) (pv 1) (fun _ _ => rfl)) pa_nil))))))
      (pss_one (ps_aug (i := 1) scRPB.nd rfl (Or.inl rfl) pe_int ip_add)))
    (pss_cons (ps_if (PW.pt (pw_or (pt_cmpR op_lt (pv 1) pe_int (nomark _)) (pw_or1 (pt_cmpR op_gt (pv 1) (pe_glob (v := .int 4) rfl hp4 ⟨_, rfl⟩) (nomark _))))) pss_never pss_nil)
    (pss_cons (ps_set (i := 2) scRPB.nd rfl (Or.inl rfl) (pe_callTy call_tuple_of rfl T.tuple PyProof.Rows.boot_tuple (pa_cons (pe_comp NPB (defScope s_read_phrase_and_bends) rfl (by decide +kernel) (by decide +kernel) (pi_list (pe_slice sl_list (pv 0) (po_some (pv 1)) po_none)) (fun _ _ _ _ _ => pts_nil)
      (fun _ _ _ _ _ => pe_def GB (hr.mono (by decide)) (pa_cons (pv 3) pa_nil))) pa_nil)))
    (pss_cons (ps_if (PW.pt (pw_or (pt_cmpR op_gt (pe_callB call_len_seq rfl T.len PySem.boot_len (pa_cons (pv 2) pa_nil)) (pe_glob (v := .int 5) rfl hb5 ⟨_, rfl⟩) (nomark _)) (pw_or1 (pt_cmpR (op_inNone hu) pe_non (pv 2) (by with_unfolding_all rfl))))) pss_never pss_nil)
    (pss_one (ps_ret (pe_tup (pa_cons (pe_callTy call_tuple_of rfl T.tuple PyProof.Rows.boot_tuple (pa_cons (pe_slice sl_list (pv 0) po_none (po_some (pv 1))) pa_nil)) (pa_cons (pv 2) pa_nil))))))))), ?_⟩
  have hb := big
  have lp : ((ph ++ bs.map bX).map V.str).length = ph.length + bs.length := by rw [List.length_map, List.length_append, List.length_map]
  refine while_post (fun m σ' H' => ∃ i : Nat, σ' = [some (.ref a), some (.int (i : Nat)), none] ∧ Same H H' ∧ i ≤ ph.length ∧ m = ph.length - i) (fun σ' H' => σ' = [some (.ref a), some (.int (ph.length : Nat)), none] ∧ Same H H') ⟨_, 0, rfl, Same.refl H, Nat.zero_le _, rfl⟩ ?loop ?rest
  case rest =>
    rintro σ' H1 ⟨rfl, g1⟩
    have ha1 := g1 _ _ ha
    refine ⟨_, rfl, _, _, rfl, rfl, _, rfl, ?_⟩
    refine ite2 (fun z => absurd (of_decide_eq_true z) (by omega)) (fun _ => ?_)
    refine ⟨_, rfl, _, _, rfl, rfl, _, rfl, ?_⟩
    refine ite2 (fun z => absurd (of_decide_eq_true z) (by omega)) (fun _ => ?_)
    refine ⟨_, rfl, _, rfl, _, rfl, a, _, rfl, SqL.of ha1, fun p hp => ?_⟩
    rw [cutV_fromM _ (by omega)]
    have ed : ((ph ++ bs.map bX).map V.str).drop ((ph.length : Nat) : Int).toNat = (bs.map bX).map V.str := by
      rw [show ((ph.length : Nat) : Int).toNat = ph.length by omega, List.map_append, List.drop_left' (List.length_map _)]
    rw [ed]
    have g2 := same_new hp (.lst ((bs.map bX).map V.str))
    have e2 : upd H1 p (.lst ((bs.map bX).map V.str)) p = some (.lst ((bs.map bX).map V.str)) := upd_same
    generalize upd H1 p (.lst ((bs.map bX).map V.str)) = H2 at g2 e2 ⊢
    refine ⟨p, rfl, ⟨_, SqL.of e2⟩, ?_⟩
    have el : ((bs.map bX).map V.str).length = bs.length := by rw [List.length_map, List.length_map]
    refine comp_listM (K := K) (a := p) (xs := (bs.map bX).map V.str) (fun i ys H' => Same H2 H' ∧ Paired (cpR H') (bs.take i) ys) (by omega) ⟨Same.refl _, .nil⟩ (fun i ys H' hi h => ⟨SqL.of (h.1 _ _ e2), by rw [← paired_lenM h.2, List.length_take]; omega⟩) ?_ ?_
    · rintro i x ys H' hx ⟨g3, hp3⟩ KY hK
      rw [List.getElem?_map, List.getElem?_map] at hx
      cases hbi : bs[i]? with
      | none => rw [hbi] at hx; cases hx
      | some b =>
        rw [hbi] at hx
        cases hx
        refine ⟨_, rfl, b, rfl, hbs b (List.mem_of_getElem? hbi), fun r H4 g4 h4 => hK _ _ ⟨g3.trans g4, ?_⟩⟩
        rw [List.take_add_one, hbi]
        exact paired_snocM (Paired.mapP hp3 fun _ _ z => z.mono g4.t) ⟨r, rfl, h4⟩
    · rintro ys H' ⟨g3, hp3⟩ l hl
      rw [el, List.take_length] at hp3
      have g4 := same_new hl (.lst ys)
      refine ⟨l, ys, rfl, .inl ⟨SqL.of upd_same, fun r hr1 => ?_⟩⟩
      have g5 := g4.trans (same_new hr1 (.tup ys))
      have e5 : upd (upd H' l (.lst ys)) r (.tup ys) r = some (.tup ys) := upd_same
      generalize upd (upd H' l (.lst ys)) r (.tup ys) = H5 at g5 e5
      have hp5 : Paired (cpR H5) bs ys := Paired.mapP hp3 fun _ _ z => z.mono g5.t
      have yl := paired_lenM hp5
      refine ⟨_, rfl, r, _, rfl, .inr (SqT.of e5), _, _, rfl, rfl, _, rfl, ?_⟩
      refine ite2 (fun z => absurd (of_decide_eq_true z) (by omega)) (fun _ => ?_)
      refine ⟨_, rfl, r, ys, rfl, rfl, SqT.of e5, fun v hv => ?_, _, rfl, iteF ?_⟩
      · obtain ⟨j, hj⟩ := List.getElem?_of_mem hv
        obtain ⟨b, _, ca, rfl, hca⟩ := paired_get hp5 hj
        exact ⟨ca, _, rfl, SqT.of hca⟩
      · have gA := ((g1.trans g2).trans g3).trans g5
        refine ⟨_, rfl, _, rfl, _, rfl, a, _, rfl, SqL.of (gA _ _ ha), fun p6 hp6 => ?_⟩
        rw [cutV_toM _ (by omega)]
        have et : ((ph ++ bs.map bX).map V.str).take ((ph.length : Nat) : Int).toNat = ph.map V.str := by
          rw [show ((ph.length : Nat) : Int).toNat = ph.length by omega, List.map_append, List.take_left' (List.length_map _)]
        rw [et]
        have g6 := same_new hp6 (.lst (ph.map V.str))
        refine ⟨p6, _, rfl, .inl ⟨SqL.of upd_same, fun p7 hp7 => ?_⟩⟩
        have g7 := g6.trans (same_new hp7 (.tup (ph.map V.str)))
        have e7 : upd (upd H5 p6 (.lst (ph.map V.str))) p7 (.tup (ph.map V.str)) p7 = some (.tup (ph.map V.str)) := upd_same
        generalize upd (upd H5 p6 (.lst (ph.map V.str))) p7 (.tup (ph.map V.str)) = H7 at g7 e7
        refine ⟨_, rfl, (by show 2 ≤ sizeLine; decide), fun r8 hr8 => ?_⟩
        have g8 := same_new hr8 (.tup [.ref p7, .ref r])
        exact q r8 _ _ _ ((gA.trans g7).trans g8) upd_same ⟨p7, rfl, g8 _ _ e7⟩ ⟨r, ys, rfl, g8 _ _ (g7 _ _ e5), Paired.mapP hp5 fun _ _ z => z.mono (g7.trans g8).t⟩
  rintro R hR m σ' H1 ⟨i, rfl, g1, hi, rfl⟩
  have ha1 := g1 _ _ ha
  refine ⟨_, rfl, _, rfl, a, _, rfl, .inl (SqL.of ha1), _, _, rfl, rfl, _, rfl, ?_⟩
  rw [lp]
  refine ite2 (fun c => ?_) (fun c => ?_)
  · have c' : (i : Int) < ((ph.length + bs.length : Nat) : Int) := of_decide_eq_true c
    by_cases hlt : i < ph.length
    · have hx : atI ((ph ++ bs.map bX).map V.str) (i : Nat) = some (.str ph[i]) := atI_nat (by rw [List.getElem?_map, List.getElem?_append_left hlt, List.getElem?_eq_getElem hlt] <;> rfl)
      have hw := hph _ (List.getElem_mem hlt)
      have hw2 := hw.2.1
      refine ⟨_, rfl, _, rfl, a, _, _, _, rfl, rfl, SqL.of ha1, hx, _, rfl, by omega, fun H2 g2 => ⟨_, rfl, ?_⟩⟩
      rw [isW_wd hw]
      refine iteT ⟨fun σ' H' => ∃ m', m' < ph.length - i ∧ ∃ i : Nat, σ' = [some (.ref a), some (.int (i : Nat)), none] ∧ Same H H' ∧ i ≤ ph.length ∧ m' = ph.length - i, fun _ _ h => h, ?_⟩
      refine ⟨_, rfl, _, _, rfl, rfl, ?_⟩
      exact ⟨ph.length - (i + 1), by omega, i + 1, by simp, g1.trans g2, hlt, rfl⟩
    · have ei : i = ph.length := by omega
      subst ei
      cases bs with
      | nil => simp at c'
      | cons b br =>
        have hx : atI ((ph ++ (b :: br).map bX).map V.str) (ph.length : Nat) = some (.str (bX b)) := atI_nat (by rw [List.getElem?_map, List.getElem?_append_right (Nat.le_refl _), Nat.sub_self] <;> rfl)
        have hbl := bX_len (hbs b List.mem_cons_self)
        refine ⟨_, rfl, _, rfl, a, _, _, _, rfl, rfl, SqL.of ha1, hx, _, rfl, by omega, fun H2 g2 => ⟨_, rfl, ?_⟩⟩
        rw [isW_bX]
        refine iteF ?_
        exact hR _ _ ⟨rfl, g1.trans g2⟩
  · have c' : ¬ (i : Int) < ((ph.length + bs.length : Nat) : Int) := of_decide_eq_false (Bool.eq_false_iff.mpr c)
    have ei : i = ph.length := by omega
    subst ei
    refine iteF ?_
    exact hR _ _ ⟨rfl, g1⟩
end
end D
namespace D
open PySem L2
def spBent : Sp := fun vs H Q _ => ∃ (a b : Addr) (ws : List Str) (l : Str) (cp : Str × Str), vs = [.ref a, .ref b] ∧ H a = some (.tup ((ws ++ [l]).map V.str)) ∧ H b = some (.tup [.str cp.1, .str cp.2]) ∧ ws.length ≤ 4 ∧ Wd l ∧
  (cp.1.length ≤ l.length ∧ (cs l).drop (l.length - cp.1.length) = cs cp.1 ∧ cp.2.length ≤ 20 ∧ allGood cp.1 ∧ allGood cp.2 ∧ 1 ≤ (formW l cp).length ∧ (formW l cp).length ≤ 20) ∧ ∀ r H', Same H H' → H' r = some (.tup ((ws ++ [formW l cp]).map V.str)) → Q (.ref r) H'
def spForms : Sp := fun vs H Q _ => ∃ (a : Addr) (v : V) (ws : List Str) (l : Str) (bs : List (Str × Str)), vs = [.ref a, v] ∧ H a = some (.tup ((ws ++ [l]).map V.str)) ∧ bR H bs v ∧ ws.length ≤ 4 ∧ Wd l ∧ BOk l bs ∧ ∀ r H', Same H H' → Q r H'
def spHas : Sp := fun vs H Q _ => ∃ (a : Addr) (v : V) (ws : List Str) (l : Str) (bs : List (Str × Str)), vs = [.ref a, v] ∧ H a = some (.tup ((ws ++ [l]).map V.str)) ∧ bR H bs v ∧ ws.length ≤ 4 ∧ Wd l ∧ BOk l bs ∧ ∀ H', Same H H' → Q (.bl true) H'
theorem ends_fit {l : Str} {cp : Str × Str} (h1 : cp.1.length ≤ l.length) (h2 : (cs l).drop (l.length - cp.1.length) = cs cp.1) : endsC l cp.1 = true := by
  unfold endsC
  rw [decide_eq_true h1, decide_eq_true h2] <;> rfl
theorem formW_good {l : Str} {cp : Str × Str} (h1 : allGood l) (h2 : allGood cp.2) : allGood (formW l cp) := by
  unfold formW
  exact .mk (by rw [List.all_append, all_take h1, show (cs cp.2).all good = true from h2] <;> rfl)
theorem formW_eq {l : Str} {cp : Str × Str} {n : Int} (h0 : 0 ≤ n) (hn : n = (l.length : Int) - (cp.1.length : Int)) : (⟨(cutC l none (some n)).toArray⟩ : Str) ++ cp.2 = formW l cp := by
  refine str_ext ?_
  unfold formW
  rw [cs_app, cs_mk, cs_mk, cut_to l h0]
  congr 2
  omega
theorem paired_strM (H : Hp) : ∀ zs : List Str, Paired (strR H) zs (zs.map V.str)
  | [] => .nil
  | _ :: r => .cons rfl (paired_strM H r)
theorem wR_tup {K : PySem.W.Frag} {H : Hp} {zs : List Str} {v : V} (h : wR H zs v) : tupR K strR H zs v := let ⟨a, e, q⟩ := h; ⟨a, _, e, SqT.of q, paired_strM _ _⟩
section
variable {P : Program} {w : World} {K : PySem.W.Frag} {mg : Str → Option Value} {base : Heap} {f : Addr} {fd : FuncData}
theorem scBent : FnScope ["phrase", "bend", "last", "cut", "new_last"] ["phrase", "bend"] (defScope s_bent) := ⟨rfl, rfl, rfl, by decide +kernel, rfl, by decide +kernel, by decide +kernel⟩
set_option maxHeartbeats 4000000 in
theorem ok_bent (F : Fun K "bent" "bent" s_bent f fd) (T : Tw K mg) (GW : Def P w K mg base CX0 1 "is_word" ["thing"] spWord) : FnOk P w K mg base CX0 2 f fd ["phrase", "bend"] spBent := by
  refine F.ok scBent (fun vs H Q E h => ?_) (fun cdv A outer s H vs Q E hr h => ?_)
  · obtain ⟨a, b, ws, l, cp, rfl, _⟩ := h
    rfl
  obtain ⟨a, b, ws, l, cp, rfl, ha, hb0, nw, hl, ⟨f1, f2, f3, f4, f5, f6, f7⟩, q⟩ := h
  refine ⟨_, pss_cons (ps_set (i := 2) scBent.nd rfl (Or.inl rfl) (pe_ix ix_tup (pv 0) (pe_un un_neg pe_int) (fun _ _ => rfl)))
    (pss_cons (ps_set (i := 3) scBent.nd rfl (Or.inl rfl) (pe_ix ix_tup (pv 1) pe_int (fun _ _ => rfl)))
    (pss_cons (ps_if (pt_not (pt_val (pe_bm PySem.F.plainAttrs_str PySem.F.slot_str_endswith PySem.F.type_str_endswith mt_ends (pv 2) (pa_cons (pv 3) pa_nil)))) pss_never pss_nil)
    (pss_cons (ps_set (i := 4) scBent.nd rfl (Or.inl rfl) (pe_op op_add_str (pe_slice sl_str (pv 2) po_none (po_some (pe_op op_sub (pe_callB call_len_str rfl T.len PySem.boot_len (pa_cons (pv 2) pa_nil)) (pe_callB call_len_str rfl T.len PySem.boot_len (pa_cons (pv 3) pa_nil))))) (pe_ix ix_tup (pv 1) pe_int (fun _ _ => rfl))))
    (pss_cons (ps_if (pt_not (pt_val (pe_def GW hr (pa_cons (pv 4) pa_nil)))) pss_never pss_nil)
    (pss_one (ps_ret (pe_op (OpR.or op_catT0 op_catT) (pe_slice sl_tup (pv 0) po_none (po_some (pe_un un_neg pe_int))) (pe_tup (pa_cons (pv 4) pa_nil))))))))), ?_⟩
  have hb := big
  have l20 := hl.2.1
  have zl : l.length ≤ sizeLine := by omega
  have zc : cp.1.length ≤ sizeLine := by omega
  have em : (ws ++ [l]).map V.str = ws.map V.str ++ [.str l] := by rw [List.map_append] <;> rfl
  have ha' : SqT K H a (ws.map V.str ++ [.str l]) := SqT.of (by rw [← em]; exact ha)
  refine ⟨_, rfl, 1, rfl, a, _, _, _, rfl, rfl, ha', atI_last _ _, ?_⟩
  refine ⟨_, rfl, b, _, _, _, rfl, rfl, SqT.of hb0, rfl, ?_⟩
  refine ⟨_, rfl, rfl, _, rfl, l, cp.1, rfl, rfl, _, rfl, ?_⟩
  rw [ends_fit f1 f2]
  refine iteF ?_
  refine ⟨_, rfl, _, rfl, l, rfl, zl, _, rfl, cp.1, rfl, zc, _, _, rfl, rfl, _, rfl, l, rfl, zl, _, rfl, b, _, _, _, rfl, rfl, SqT.of hb0, rfl, _, _, rfl, rfl, ?_, ?_⟩
  · rw [len_mk, cut_to _ (by omega), List.length_take, cs_len]
    omega
  · rw [formW_eq (cp := cp) (show (0 : Int) ≤ (l.length : Int) - (cp.1.length : Int) by omega) rfl]
    have hng := formW_good (cp := cp) hl.2.2 f5
    refine ⟨_, rfl, _, rfl, by omega, fun H1 g1 => ⟨_, rfl, ?_⟩⟩
    rw [isW_wd ⟨f6, f7, hng⟩]
    refine iteF ?_
    refine snoc_rd (xs := ws.map V.str) (l := .str l) (z := .str (formW l cp)) rfl (g1.seqT ha') (by rw [List.length_map]; omega) (fun H2 g2 Q1 hq => ⟨_, rfl, hq⟩) (fun r H' g h => q r H' (g1.trans g) ?_)
    rw [h, List.map_append] <;> rfl
theorem scForms : FnScope ["phrase", "bends", "found", "bend", "form"] ["phrase", "bends"] (defScope s_forms) := ⟨rfl, rfl, rfl, by decide +kernel, rfl, by decide +kernel, by decide +kernel⟩
theorem dec_noM {p : Prop} (h : ¬ p) (i : Decidable p) : @decide p i = false := @decide_eq_false p i h
set_option maxHeartbeats 4000000 in
theorem ok_forms (F : Fun K "forms" "forms" s_forms f fd) (T : Tw K mg) (GB : Def P w K mg base CX0 2 "bent" ["phrase", "bend"] spBent) : FnOk P w K mg base CX0 3 f fd ["phrase", "bends"] spForms := by
  refine F.ok scForms (fun vs H Q E h => ?_) (fun cdv A outer s H vs Q E hr h => ?_)
  · obtain ⟨a, b, ws, l, cps, rfl, _⟩ := h
    rfl
  obtain ⟨a, v, ws, l, bs, rfl, ha, ⟨b, bxs, rfl, hbx, hbp⟩, nw, hl, hB, q⟩ := h
  have hu : (A.deeper (PyProof.Rows.envOfC "forms" (defScope s_forms) s.heap.objs.size f cdv)).in1.units < cLine := by
    have := hr.units
    show (A.deeper (PyProof.Rows.envOfC "forms" (defScope s_forms) s.heap.objs.size f cdv)).units + 1 < cLine
    omega
  refine ⟨_, pss_cons (ps_set (i := 2) scForms.nd rfl (Or.inl rfl) (pe_lst (pa_cons (pv 0) pa_nil)))
    (pss_cons (ps_for PassesOwn.never rfl (pi_tup (pv 1)) (pg_name (i := 3) scForms.nd rfl (Or.inl rfl))
      (pss_cons (ps_set (i := 4) scForms.nd rfl (Or.inl rfl) (pe_def GB hr (pa_cons (pv 0) (pa_cons (pv 3) pa_nil))))
      (pss_cons (ps_if (pt_cmpR (op_inLst (eqok_tup eqok_str hu)) (pv 4) (pv 2) (by with_unfolding_all rfl)) pss_never pss_nil)
      (pss_one (ps_expr (pe_bm PySem.F.plainAttrs_list PySem.F.slot_list_append PySem.F.type_list_append mt_append (pv 2) (pa_cons (pv 4) pa_nil)))))))
    (pss_one (ps_ret (pe_callTy call_tuple_of rfl T.tuple PyProof.Rows.boot_tuple (pa_cons (pv 2) pa_nil))))), ?_⟩
  have hb := big
  have hbl := paired_lenM hbp
  have hn := hB.len
  refine ⟨_, rfl, (by show 1 ≤ sizeLine; decide), fun p hp => ?_⟩
  have keep : ∀ (H' : Hp) (o : HO), Same H H' → Same H (upd H' p o) := fun H' o g => keep_upd hp g o
  have k0 := keep H (.lst [.ref a]) (Same.refl H)
  refine ⟨_, rfl, b, rfl, ⟨_, SqT.of (k0 _ _ hbx)⟩, ?_⟩
  refine for_tup (K := K) (a := b) (xs := bxs) (fun i σ' H' => Same H H' ∧ (∃ u v : Option V, σ' = [some (.ref a), some (.ref b), some (.ref p), u, v]) ∧ ∃ xs, H' p = some (.lst xs) ∧ Paired (wR H') ((ws ++ [l]) :: (bs.take i).map fun c => ws ++ [formW l c]) xs) ?_ (fun i σ' H' _ h => SqT.of (h.1 _ _ hbx)) ?_ ?_
  · exact ⟨k0, ⟨none, none, rfl⟩, _, upd_same, .cons ⟨a, rfl, k0 _ _ ha⟩ .nil⟩
  · rintro i x σ' H' hi ⟨g, ⟨u, v, rfl⟩, xs, hxs, ht⟩
    obtain ⟨cp, hcp, r, rfl, hr1⟩ := paired_get hbp hi
    have hm := List.mem_of_getElem? hcp
    refine ⟨_, rfl, _, rfl, a, r, ws, l, cp, rfl, g _ _ ha, g _ _ hr1, nw, hl, hB.fit cp hm, fun r2 H2 g2 h2 => ?_⟩
    have gA := g.trans g2
    have hx2 := g2 _ _ hxs
    have ht2 : Paired (wR H2) ((ws ++ [l]) :: (bs.take i).map fun c => ws ++ [formW l c]) xs := Paired.mapP ht fun _ _ z => z.mono g2.t
    refine ⟨_, rfl, _, rfl, ws ++ [formW l cp], _, ⟨r2, _, rfl, SqT.of h2, paired_strM _ _⟩, ⟨p, xs, rfl, SqL.of hx2, Paired.mapP ht2 fun _ _ z => wR_tup z⟩, _, rfl, ?_⟩
    have hno : ws ++ [formW l cp] ∉ (ws ++ [l]) :: (bs.take i).map fun c => ws ++ [formW l c] := by
      intro z
      have nd := hB.nd
      have hsp : bs = bs.take i ++ cp :: bs.drop (i + 1) := by
        have hil := (List.getElem?_eq_some_iff.mp hcp).1
        have e := (List.getElem?_eq_some_iff.mp hcp).2
        rw [← e, ← List.drop_eq_getElem_cons hil, List.take_append_drop]
      rw [hsp, List.map_append, List.map_cons] at nd
      have nd2 : ∀ y ∈ l :: (bs.take i).map (formW l), y ≠ formW l cp := by
        have := (List.nodup_append (l₁ := l :: (bs.take i).map (formW l)) (l₂ := formW l cp :: (bs.drop (i + 1)).map (formW l))).mp nd
        exact fun y hy => this.2.2 y hy _ List.mem_cons_self
      rcases List.mem_cons.mp z with e | e
      · have := (List.cons.inj (List.append_cancel_left e)).1
        exact nd2 l List.mem_cons_self this.symm
      · obtain ⟨c, hc, e⟩ := List.mem_map.mp e
        have := (List.cons.inj (List.append_cancel_left e)).1
        exact nd2 _ (List.mem_cons_of_mem _ (List.mem_map_of_mem hc)) this
    rw [dec_noM hno]
    refine iteF ?_
    have hlx : xs.length ≤ 6 := by
      rw [← paired_lenM ht, List.length_cons, List.length_map, List.length_take]
      omega
    refine ⟨_, rfl, .inl ⟨rfl, _, SqL.of hx2⟩, _, rfl, p, _, _, rfl, rfl, hx2, by omega, ?_⟩
    refine ⟨keep H2 _ gA, ⟨_, _, rfl⟩, xs ++ [.ref r2], upd_same, ?_⟩
    have tl : TSame H2 (upd H2 p (.lst (xs ++ [.ref r2]))) := TSame.lst hx2
    rw [List.take_add_one, hcp, List.map_append, ← List.cons_append]
    exact paired_snocM (Paired.mapP ht2 fun _ _ z => z.mono tl) ⟨r2, rfl, tl _ _ h2⟩
  · rintro σ' H' ⟨g, ⟨u, v, rfl⟩, xs, hxs, ht⟩
    refine ⟨_, rfl, p, _, rfl, .inl ⟨SqL.of hxs, fun r hr1 => ?_⟩⟩
    exact q _ _ (g.trans (same_new hr1 _))
theorem scHas : FnScope ["phrase", "bends"] ["phrase", "bends"] (defScope s_has_forms) := ⟨rfl, rfl, rfl, by decide +kernel, rfl, by decide +kernel, by decide +kernel⟩
theorem ok_has {CF : Addr} (F : Fun K "has_forms" "has_forms" s_has_forms f fd) (mF : mg "NoForm" = some (.ref CF)) (GO : Def P w K mg base CX0 3 "forms" ["phrase", "bends"] spForms) : FnOk P w K mg base (CXX P w) 4 f fd ["phrase", "bends"] spHas := by
  refine F.okX scHas (fun vs H Q E h => ?_) (fun cdv A outer s H vs Q E hr h => ?_)
  · obtain ⟨a, v, ws, l, bs, rfl, _⟩ := h
    rfl
  obtain ⟨a, v, ws, l, bs, rfl, ha, hv, nw, hl, hB, q⟩ := h
  refine ⟨_, pss_cons (ps_try (Ex := fun _ _ _ => False) rfl rfl rfl mF
      (fun pn E' hp => pss_one (ps_expr (pe_defE (E := fun _ _ _ => False) GO.anyCX (hr.mono (by decide)) hp (pa_cons (pv 0) (pa_cons (pv 1) pa_nil)))))
      (fun e => pss_never))
    (pss_one (ps_ret pe_bl)), ?_⟩
  refine ⟨fun C d H' σ' hE _ => hE.elim, ?_⟩
  exact ⟨_, rfl, _, rfl, a, v, ws, l, bs, rfl, ha, hv, nw, hl, hB, fun r H1 g1 => q H1 g1⟩
end
end D
namespace D
open PySem L2
theorem count_join (c : Nat) (s x y : Str) (r : List Str) : (cs (Str.join s (x :: y :: r))).count c = (cs x).count c + ((cs s).count c + (cs (Str.join s (y :: r))).count c) := by
  rw [cs_joinM, List.count_append, List.count_append]
theorem split2 {a b : Str} (ha : 58 ∉ cs a) (hb : 58 ∉ cs b) : Txt.split (a ++ ": " ++ b) ": " = [a, b] := by
  have eS : cs (": " : Str) = [58, 32] := by decide +kernel
  have eL : (": " : Str).length = 2 := by decide +kernel
  have eX : cs (a ++ ": " ++ b) = cs a ++ 58 :: 32 :: cs b := by rw [cs_app, cs_app, eS, List.append_assoc] <;> rfl
  have c0 : (cs a).count 58 = 0 := List.count_eq_zero.mpr ha
  have c1 : (cs b).count 58 = 0 := List.count_eq_zero.mpr hb
  have cX : (cs (a ++ ": " ++ b)).count 58 = 1 := by
    rw [eX, List.count_append, c0, List.count_cons_self, List.count_cons_of_ne (by decide), c1]
  have hj := StrLaws.join_split (a ++ ": " ++ b) ": "
  have hn : (Txt.split (a ++ ": " ++ b) ": ").length ≠ 1 := by
    have hz : (a ++ ": " ++ b).length = a.length + 2 + b.length := by rw [len_app, len_app, eL]
    have hAt : StrLaws.At (a ++ ": " ++ b) ": " (a ++ ": " ++ b).length a.length := by
      refine ⟨by rw [hz, eL]; omega, ?_⟩
      rw [StrLaws.subAt_eq, eL]
      show (((cs (a ++ ": " ++ b)).drop a.length).take 2 == cs ": ") = true
      rw [eX, ← cs_len a, List.drop_left, eS]
      rfl
    have h1 : ¬ ((decide ((a ++ ": " ++ b).length < (": " : Str).length) || decide (Builtin.Str.strKind (a ++ ": " ++ b) < Builtin.Str.strKind ": ")) = true) := by
      have k1 : Builtin.Str.strKind ": " = 1 := by decide +kernel
      have k2 : 1 ≤ Builtin.Str.strKind (a ++ ": " ++ b) := by
        unfold Builtin.Str.strKind
        split
        · exact Nat.le_refl _
        · split <;> decide
      rw [k1, eL, hz, decide_eq_false (by omega), decide_eq_false (by omega)]
      decide
    unfold Txt.split
    rw [if_neg h1]
    rcases StrLaws.occ_head (a ++ ": " ++ b) ": " ((a ++ ": " ++ b).length + 1) (by omega) with ⟨_, no⟩ | ⟨i, r, e, _⟩
    · exact absurd hAt (no _)
    · rw [e, if_neg (by simp)]
      intro z
      rw [length_partsBetween] at z
      simp at z
  cases hs : Txt.split (a ++ ": " ++ b) ": " with
  | nil => exact absurd hs (split_ne _ _)
  | cons p t =>
    rw [hs] at hj hn
    cases t with
    | nil => exact absurd rfl hn
    | cons q t =>
      have hc := congrArg (fun x => (cs x).count 58) hj
      rw [cX, count_join, eS] at hc
      have e58 : ([58, 32] : List Nat).count 58 = 1 := by decide
      rw [e58] at hc
      have hp : 58 ∉ cs p := List.count_eq_zero.mp (by omega)
      cases t with
      | nil =>
        have hx := congrArg cs hj
        rw [cs_joinM, eS, eX] at hx
        obtain ⟨e1, e2⟩ := cut_unique (l1 := cs p) (l2 := cs a) (r1 := 32 :: cs (Str.join ": " [q])) (r2 := 32 :: cs b) hx hp ha
        rw [str_ext e1, str_ext (x := q) (y := b) (List.cons.inj e2).2]
      | cons r t =>
        rw [count_join, eS, e58] at hc
        omega
theorem join_appM : ∀ {xs : List Str} (ys : List Str), xs ≠ [] → cs (Str.join " " (xs ++ ys)) = cs (Str.join " " xs) ++ (ys.map fun y => 32 :: cs y).flatten
  | [], _, h => absurd rfl h
  | [x], ys, _ => by
    have e : cs (" " : Str) = [32] := by decide +kernel
    show cs (Str.join " " (x :: ys)) = cs x ++ _
    induction ys generalizing x with
    | nil => simp [Str.join]
    | cons y r ih =>
      rw [cs_joinM, e, ih y (by simp), List.map_cons, List.flatten_cons] <;> rfl
  | x :: x2 :: r, ys, _ => by
    show cs (Str.join " " (x :: x2 :: (r ++ ys))) = _
    rw [cs_joinM, cs_joinM, show x2 :: (r ++ ys) = (x2 :: r) ++ ys from rfl, join_appM (xs := x2 :: r) ys (by simp), List.append_assoc, List.append_assoc]
def pcX (sc : Str) (ph : List Str) (bs : List (Str × Str)) : List Str := sc :: (ph ++ bs.map bX)
def tlX (sc : Str) (ph : List Str) (bs : List (Str × Str)) (ms : List Str) : Str := Str.join " " (pcX sc ph bs) ++ ": " ++ Str.join " " ms
theorem cs_bT (b : Str × Str) : cs (bT b) = 32 :: cs (bX b) := by
  unfold bT
  rw [cs_glue, cs_bX]
  have e1 : cs (" " : Str) = [32] := by decide +kernel
  have e2 : cs (">" : Str) = [62] := by decide +kernel
  show [] ++ (cs " " ++ (cs b.1 ++ (cs ">" ++ (cs b.2 ++ [])))) = _
  rw [e1, e2, List.append_nil]
  rfl
theorem line_tell {n : Int} {sc : Str} {ph : List Str} {bs : List (Str × Str)} {ms : List Str} (h : ph ≠ []) : lineOf (.tell n sc ph bs ms) = "tell " ++ tlX sc ph bs ms := by
  refine str_ext ?_
  show cs (headOf sc ph bs ++ ": " ++ Str.join " " ms) = _
  rw [head_join]
  unfold tlX pcX
  have e1 : cs (" " : Str) = [32] := by decide +kernel
  cases ph with
  | nil => exact absurd rfl h
  | cons p r =>
    have j := join_appM (xs := sc :: p :: r) (bs.map bX) (by simp)
    have eb : (bs.map bT).map cs = (bs.map bX).map fun y => 32 :: cs y := by
      rw [List.map_map, List.map_map]
      exact List.map_congr_left fun b _ => cs_bT b
    rw [cs_joinM, e1] at j
    simp only [cs_app, cs_joinE, eb, e1]
    rw [show sc :: (p :: r ++ bs.map bX) = (sc :: p :: r) ++ bs.map bX from rfl, j]
    simp only [List.append_assoc]
theorem free_join {c : Nat} {s : Str} (hs : c ∉ cs s) : ∀ {ys : List Str}, (∀ y ∈ ys, c ∉ cs y) → c ∉ cs (Str.join s ys)
  | [], _ => by show c ∉ cs ("" : Str); rw [show cs ("" : Str) = [] by decide +kernel]; simp
  | [y], h => h y List.mem_cons_self
  | y :: y2 :: r, h => by
    rw [cs_joinM]
    intro z
    rcases List.mem_append.mp z with z | z
    · exact h y List.mem_cons_self z
    · rcases List.mem_append.mp z with z | z
      · exact hs z
      · exact free_join hs (fun x hx => h x (List.mem_cons_of_mem _ hx)) z
theorem sc_good {sc : Str} (h : sc ∈ (["all", "part", "here", "else"] : List Str)) : Wd sc := by
  simp only [List.mem_cons, List.not_mem_nil, or_false] at h
  rcases h with rfl | rfl | rfl | rfl <;> exact ⟨by decide +kernel, by decide +kernel, by unfold allGood; decide +kernel⟩
theorem TlOk.bd {sc : Str} {ph : List Str} {bs : List (Str × Str)} {ms : List Str} (h : TlOk sc ph bs ms) : ∀ b ∈ bs, BdOk b := fun b hb => by
  obtain ⟨ws, last, e, hB⟩ := h.hbs
  have l20 := (h.hph last (by rw [e]; exact List.mem_append_right _ List.mem_cons_self)).2.1
  have f := hB.fit b hb
  exact ⟨by omega, f.2.2.1, f.2.2.2.1, f.2.2.2.2.1⟩
theorem TlOk.ne {sc : Str} {ph : List Str} {bs : List (Str × Str)} {ms : List Str} (h : TlOk sc ph bs ms) : ph ≠ [] := fun z => by
  obtain ⟨ws, last, e, _⟩ := h.hbs
  rw [z] at e
  exact absurd e.symm (by simp)
theorem TlOk.pcs {sc : Str} {ph : List Str} {bs : List (Str × Str)} {ms : List Str} (h : TlOk sc ph bs ms) {c : Nat} (hc : good c = false) (h62 : c ≠ 62) : ∀ y ∈ pcX sc ph bs, c ∉ cs y := fun y hy => by
  rcases List.mem_cons.mp hy with rfl | hy
  · exact good_free (sc_good h.hsc).2.2 hc
  · rcases List.mem_append.mp hy with hy | hy
    · exact good_free (h.hph y hy).2.2 hc
    · obtain ⟨b, hb, rfl⟩ := List.mem_map.mp hy
      have B := h.bd b hb
      rw [cs_bX]
      intro z
      rcases List.mem_append.mp z with z | z
      · exact good_free B.2.2.1 hc z
      · rcases List.mem_cons.mp z with z | z
        · exact h62 z
        · exact good_free B.2.2.2 hc z
theorem Rw.free {ws : List Str} (h : Rw ws) {c : Nat} (hc : good c = false) (h32 : c ≠ 32) : c ∉ cs (Str.join " " ws) :=
  free_join (by rw [show cs (" " : Str) = [32] by decide +kernel]; simpa using h32) fun y hy => good_free (h.2.2 y hy).2.2 hc
theorem TlOk.split1 {sc : Str} {ph : List Str} {bs : List (Str × Str)} {ms : List Str} (h : TlOk sc ph bs ms) : Txt.split (tlX sc ph bs ms) ": " = [Str.join " " (pcX sc ph bs), Str.join " " ms] :=
  split2 (free_join (by decide +kernel) (h.pcs (by decide) (by decide))) (h.hms.free (by decide) (by decide))
theorem TlOk.split2 {sc : Str} {ph : List Str} {bs : List (Str × Str)} {ms : List Str} (h : TlOk sc ph bs ms) : Txt.split (Str.join " " (pcX sc ph bs)) " " = pcX sc ph bs :=
  split_join (c := 32) (by unfold pcX; simp) (h.pcs (by decide) (by decide))
theorem TlOk.hd_len {sc : Str} {ph : List Str} {bs : List (Str × Str)} {ms : List Str} (h : TlOk sc ph bs ms) : (Str.join " " (pcX sc ph bs)).length ≤ 420 := by
  have j := sumM (m := 41) (ys := pcX sc ph bs) fun y hy => by
    rcases List.mem_cons.mp hy with rfl | hy
    · have := (sc_good h.hsc).2.1
      omega
    · rcases List.mem_append.mp hy with hy | hy
      · have := (h.hph y hy).2.1
        omega
      · obtain ⟨b, hb, rfl⟩ := List.mem_map.mp hy
        exact bX_len (h.bd b hb)
  have l : (pcX sc ph bs).length ≤ 10 := by
    obtain ⟨ws, last, _, hB⟩ := h.hbs
    have a := h.hlen
    have b := hB.len
    unfold pcX
    rw [List.length_cons, List.length_append, List.length_map]
    omega
  have : (41 + 1) * (pcX sc ph bs).length ≤ 42 * 10 := Nat.mul_le_mul (Nat.le_refl _) l
  omega
theorem TlOk.tl_len {sc : Str} {ph : List Str} {bs : List (Str × Str)} {ms : List Str} (h : TlOk sc ph bs ms) : (tlX sc ph bs ms).length ≤ 5000 := by
  have a := h.hd_len
  have b := h.hms.text
  have e : (": " : Str).length = 2 := by decide +kernel
  unfold tlX
  rw [len_app, len_app, e]
  omega
end D
namespace D
open PySem L2
abbrev scs : List Str := ["all", "part", "here", "else"]
structure Ts (K : PySem.W.Frag) (mg : Str → Option Value) (CS : Addr) : Prop where
  m : mg "SCOPES" = some (.ref CS)
  s : ∀ H, SqT K H CS (scs.map V.str)
theorem sc_in {sc : Str} (h : sc ∈ scs) : inV (.str sc) (scs.map V.str) = true := by
  simp only [List.mem_cons, List.not_mem_nil, or_false] at h
  rcases h with rfl | rfl | rfl | rfl <;> decide +kernel
def spRS : Sp := fun vs H Q _ => ∃ (ws : List Str) (n : Int), vs = [.str (Str.join " " ws), .int n] ∧ Rw ws ∧ ∀ v H', Same H H' → sayR H' n ws v → Q v H'
def spRT : Sp := fun vs H Q _ => ∃ (sc : Str) (ph : List Str) (bs : List (Str × Str)) (ms : List Str) (n : Int), vs = [.str (tlX sc ph bs ms), .int n] ∧ TlOk sc ph bs ms ∧ ∀ v H', Same H H' → tellR H' n sc ph bs ms v → Q v H'
def setN (n : Int) : Th → Th
  | .say _ ws => .say n ws
  | .tell _ sc ph bs ms => .tell n sc ph bs ms
  | .part _ i => .part n i
def spRR : Sp := fun vs H Q _ => ∃ (t : Th) (n : Int), vs = [.str (lineOf t), .int n] ∧ TOk t ∧ (¬ ∃ n i, t = .part n i) ∧ ∀ v H', Same H H' → thR H' (setN n t) v → Q v H'
def spCIR : Sp := fun vs H Q _ => ∃ ls : List Str, vs = [.str (Str.join "\n" ls)] ∧ (∀ y ∈ ls, 10 ∉ cs y ∧ 1 ≤ y.length) ∧ (Str.join "\n" ls).length + 2 ≤ sizeLine ∧ ∀ r H', Same H H' → H r = none → H' r = some (.lst (ls.map V.str)) → Q (.ref r) H'
theorem starts_app (x y : Str) : Txt.startswith (y ++ x) y = true := by
  unfold Txt.startswith
  rw [StrLaws.subAt_eq]
  have e : ((y ++ x).cps.toList.drop 0).take y.length = y.cps.toList := by
    show ((cs (y ++ x)).drop 0).take y.length = cs y
    rw [cs_app, List.drop_zero, ← cs_len, List.take_left]
  rw [e, len_app, decide_eq_true (by omega)]
  simp
theorem starts_no (x : Str) : Txt.startswith ("tell " ++ x) "say " = false := by
  unfold Txt.startswith
  rw [StrLaws.subAt_eq]
  have e1 : cs ("tell " : Str) = [116, 101, 108, 108, 32] := by decide +kernel
  have e2 : ("say " : Str).cps.toList = [115, 97, 121, 32] := by decide +kernel
  have e3 : ("say " : Str).length = 4 := by decide +kernel
  have e : (("tell " ++ x).cps.toList.drop 0).take ("say " : Str).length = [116, 101, 108, 108] := by
    show ((cs ("tell " ++ x)).drop 0).take _ = _
    rw [cs_app, e1, e3] <;> rfl
  rw [e, e2]
  have : (([116, 101, 108, 108] : List Nat) == [115, 97, 121, 32]) = false := by decide
  rw [this, Bool.and_false]
theorem cut_head (x y : Str) : (⟨(cutC (y ++ x) (some ((y.length : Nat) : Int)) none).toArray⟩ : Str) = x := by
  refine str_ext ?_
  rw [cs_mk, cut_from _ (by omega), cs_app, show ((y.length : Nat) : Int).toNat = (cs y).length by rw [cs_len]; omega, List.drop_left]
section
variable {P : Program} {w : World} {K : PySem.W.Frag} {mg : Str → Option Value} {base : Heap} {f : Addr} {fd : FuncData}
theorem scRS : FnScope ["text", "number", "words"] ["text", "number"] (defScope s_read_say) := ⟨rfl, rfl, rfl, by decide +kernel, rfl, by decide +kernel, by decide +kernel⟩
theorem ok_rs (F : Fun K "read_say" "read_say" s_read_say f fd) (GR : Def P w K mg base (CXX P w) 3 "read_words" ["text"] spWO) : FnOk P w K mg base (CXX P w) 4 f fd ["text", "number"] spRS := by
  refine F.okX scRS (fun vs H Q E h => ?_) (fun cdv A outer s H vs Q E hr h => ?_)
  · obtain ⟨ws, n, rfl, _⟩ := h
    rfl
  obtain ⟨ws, n, rfl, hw, q⟩ := h
  refine ⟨_, pss_cons (ps_set (i := 2) scRS.nd rfl (Or.inl rfl) (pe_dX GR hr (by decide) (pa_cons (pv 0) pa_nil)))
    (pss_cons (ps_if (pt_cmpR op_isN (pv 2) pe_non (nomark _)) pss_never pss_nil)
    (pss_one (ps_ret (pe_tup (pa_cons pe_str (pa_cons (pv 1) (pa_cons (pv 2) pa_nil))))))), ?_⟩
  refine ⟨_, rfl, ws, rfl, hw, fun r H1 g1 h1 => ?_⟩
  refine ⟨_, rfl, rfl, _, rfl, ?_⟩
  refine ite2 (fun z => absurd (of_decide_eq_true z) (by intro z; cases z)) (fun _ => ?_)
  refine ⟨_, rfl, _, rfl, (by show 3 ≤ sizeLine; decide), fun p hp => ?_⟩
  have g2 := same_new hp (.tup [.str "say", .int n, .ref r])
  exact q _ _ (g1.trans g2) ⟨p, _, rfl, upd_same, r, rfl, g2 _ _ h1⟩
abbrev NRT : List Str := ["text", "number", "sides", "pieces", "told", "meaning"]
theorem scRT : FnScope NRT ["text", "number"] (defScope s_read_telling) := ⟨rfl, rfl, rfl, by decide +kernel, rfl, by decide +kernel, by decide +kernel⟩
set_option maxHeartbeats 8000000 in
theorem ok_rt {CS : Addr} (F : Fun K "read_telling" "read_telling" s_read_telling f fd) (T : Tw K mg) (S : Ts K mg CS) (GP : Def P w K mg base CX0 3 "read_phrase_and_bends" ["pieces"] spRPB) (GR : Def P w K mg base (CXX P w) 3 "read_words" ["text"] spWO) (GH : Def P w K mg base (CXX P w) 4 "has_forms" ["phrase", "bends"] spHas) : FnOk P w K mg base (CXX P w) 5 f fd ["text", "number"] spRT := by
  refine F.okX scRT (fun vs H Q E h => ?_) (fun cdv A outer s H vs Q E hr h => ?_)
  · obtain ⟨sc, ph, bs, ms, n, rfl, _⟩ := h
    rfl
  obtain ⟨sc, ph, bs, ms, n, rfl, hok, q⟩ := h
  refine ⟨_, pss_cons (ps_set (i := 2) scRT.nd rfl (Or.inl rfl) (pe_bm PySem.F.plainAttrs_str PySem.F.slot_str_split PySem.F.type_str_split mt_splitN (pv 0) (pa_cons pe_str pa_nil)))
    (pss_cons (ps_if (pt_cmpR op_ne (pe_callB call_len_seq rfl T.len PySem.boot_len (pa_cons (pv 2) pa_nil)) pe_int (nomark _)) pss_never pss_nil)
    (pss_cons (ps_set (i := 3) scRT.nd rfl (Or.inl rfl) (pe_bm PySem.F.plainAttrs_str PySem.F.slot_str_split PySem.F.type_str_split mt_split (pe_ix ix_list (pv 2) pe_int (fun _ _ => rfl)) (pa_cons pe_str pa_nil)))
    (pss_cons (ps_set (i := 4) scRT.nd rfl (Or.inl rfl) (pe_d0 GP hr (by decide) (pa_cons (pe_slice sl_list (pv 3) (po_some pe_int) po_none) pa_nil)))
    (pss_cons (ps_set (i := 5) scRT.nd rfl (Or.inl rfl) (pe_dX GR hr (by decide) (pa_cons (pe_ix ix_list (pv 2) pe_int (fun _ _ => rfl)) pa_nil)))
    (pss_cons (ps_if (PW.pt (pw_or (pt_cmpR op_notIn_seq (pe_ix ix_list (pv 3) pe_int (fun _ _ => rfl)) (pe_glob (v := .ref CS) rfl S.m rfl) (by with_unfolding_all rfl)) (pw_or (pt_cmpR op_isN (pv 4) pe_non (nomark _)) (pw_or1 (pt_cmpR op_isN (pv 5) pe_non (nomark _)))))) pss_never pss_nil)
    (pss_cons (ps_if (pt_not (pt_val (pe_dX GH hr (by decide) (pa_cons (pe_ix ix_tup (pv 4) pe_int (fun _ _ => rfl)) (pa_cons (pe_ix ix_tup (pv 4) pe_int (fun _ _ => rfl)) pa_nil))))) pss_never pss_nil)
    (pss_one (ps_ret (pe_tup (pa_cons pe_str (pa_cons (pv 1) (pa_cons (pe_ix ix_list (pv 3) pe_int (fun _ _ => rfl)) (pa_cons (pe_ix ix_tup (pv 4) pe_int (fun _ _ => rfl)) (pa_cons (pe_ix ix_tup (pv 4) pe_int (fun _ _ => rfl)) (pa_cons (pv 5) pa_nil))))))))))))))), ?_⟩
  have hb := big
  have lt := hok.tl_len
  have lh := hok.hd_len
  obtain ⟨ws, last, ep, hB⟩ := hok.hbs
  have hl4 := hok.hlen
  have n5 := hB.len
  have n1 : 1 ≤ ph.length := by rw [ep, List.length_append]; show 1 ≤ _ + 1; omega
  have nws : ws.length ≤ 4 := by rw [ep, List.length_append] at hl4; omega
  have hwl : Wd last := hok.hph last (by rw [ep]; exact List.mem_append_right _ List.mem_cons_self)
  refine ⟨_, rfl, rfl, tlX sc ph bs ms, ": ", rfl, rfl, by decide +kernel, (by rw [show (": " : Str).length = 2 by decide +kernel]; omega), fun p hp => ?_⟩
  rw [hok.split1]
  have g1 := same_new hp (.lst ([Str.join " " (pcX sc ph bs), Str.join " " ms].map V.str))
  have e1 : upd H p (.lst ([Str.join " " (pcX sc ph bs), Str.join " " ms].map V.str)) p = some (.lst ([Str.join " " (pcX sc ph bs), Str.join " " ms].map V.str)) := upd_same
  generalize upd H p (.lst ([Str.join " " (pcX sc ph bs), Str.join " " ms].map V.str)) = H1 at g1 e1 ⊢
  refine ⟨_, rfl, p, _, rfl, .inl (SqL.of e1), rfl, _, rfl, ?_⟩
  refine ite2 (fun z => absurd z (show ¬ (!decide (V.int ((2 : Nat) : Int) = V.int 2)) = true by decide)) (fun _ => ?_)
  refine ⟨_, rfl, p, _, _, _, rfl, rfl, SqL.of e1, rfl, rfl, Str.join " " (pcX sc ph bs), " ", rfl, rfl, by decide +kernel, by omega, fun p2 hp2 => ?_⟩
  rw [hok.split2]
  have g2 := same_new hp2 (.lst ((pcX sc ph bs).map V.str))
  have e2 : upd H1 p2 (.lst ((pcX sc ph bs).map V.str)) p2 = some (.lst ((pcX sc ph bs).map V.str)) := upd_same
  generalize upd H1 p2 (.lst ((pcX sc ph bs).map V.str)) = H2 at g2 e2 ⊢
  refine ⟨_, rfl, _, rfl, p2, _, rfl, SqL.of e2, fun p3 hp3 => ?_⟩
  have ed : cutV ((pcX sc ph bs).map V.str) (some 1) none = (ph ++ bs.map bX).map V.str := by
    rw [cutV_fromM _ (by decide)]
    rfl
  rw [ed]
  have g3 := same_new hp3 (.lst ((ph ++ bs.map bX).map V.str))
  have e3 : upd H2 p3 (.lst ((ph ++ bs.map bX).map V.str)) p3 = some (.lst ((ph ++ bs.map bX).map V.str)) := upd_same
  generalize upd H2 p3 (.lst ((ph ++ bs.map bX).map V.str)) = H3 at g3 e3 ⊢
  refine ⟨p3, ph, bs, rfl, e3, n1, hok.hlen, hok.hph, n5, hok.bd, fun r x y H4 g4 h4 wx by4 => ?_⟩
  have e14 := g4 _ _ (g3 _ _ (g2 _ _ e1))
  refine ⟨_, rfl, p, _, _, _, rfl, rfl, SqL.of e14, rfl, ms, rfl, hok.hms, fun r5 H5 g5 h5 => ?_⟩
  have e25 := g5 _ _ (g4 _ _ (g3 _ _ e2))
  refine ⟨_, rfl, p2, _, _, _, rfl, rfl, SqL.of e25, atI_nat (j := 0) (v := V.str sc) rfl, CS, _, rfl, .inr (S.s _), rfl, rfl, _, rfl, ?_⟩
  rw [sc_in hok.hsc]
  refine iteF ?_
  refine ⟨_, rfl, rfl, _, rfl, ?_⟩
  refine ite2 (fun z => absurd (of_decide_eq_true z) (by intro z; cases z)) (fun _ => ?_)
  refine ⟨_, rfl, rfl, _, rfl, ?_⟩
  refine ite2 (fun z => absurd (of_decide_eq_true z) (by intro z; cases z)) (fun _ => ?_)
  have h45 := g5 _ _ h4
  have wx5 := wx.mono g5.t
  have by5 := by4.mono g5.t
  obtain ⟨xa, rfl, hxa⟩ := wx5
  refine ⟨_, rfl, r, _, _, _, rfl, rfl, SqT.of h45, rfl, _, rfl, r, _, _, _, rfl, rfl, SqT.of h45, rfl, xa, y, ws, last, bs, rfl, by rw [← ep]; exact hxa, by5, nws, hwl, hB, fun H6 g6 => ⟨_, rfl, iteF ?_⟩⟩
  have h46 := g6 _ _ h45
  refine ⟨_, rfl, _, rfl, p2, _, _, _, rfl, rfl, SqL.of (g6 _ _ e25), atI_nat (j := 0) (v := V.str sc) rfl, _, rfl, r, _, _, _, rfl, rfl, SqT.of h46, rfl, _, rfl, r, _, _, _, rfl, rfl, SqT.of h46, rfl, _, rfl, (by show 6 ≤ sizeLine; decide), fun p7 hp7 => ?_⟩
  have g7 := same_new hp7 (.tup [.str "tell", .int n, .str sc, .ref xa, y, .ref r5])
  have gz := (((((g1.trans g2).trans g3).trans g4).trans g5).trans g6).trans g7
  exact q _ _ gz ⟨p7, _, _, _, rfl, upd_same, ⟨xa, rfl, g7 _ _ (g6 _ _ hxa)⟩, by5.mono (g6.trans g7).t, r5, rfl, g7 _ _ (g6 _ _ h5)⟩
theorem scRR : FnScope ["row", "number"] ["row", "number"] (defScope s_read_row) := ⟨rfl, rfl, rfl, by decide +kernel, rfl, by decide +kernel, by decide +kernel⟩
set_option maxHeartbeats 4000000 in
theorem ok_rr (F : Fun K "read_row" "read_row" s_read_row f fd) (T : Tw K mg) (GS : Def P w K mg base (CXX P w) 4 "read_say" ["text", "number"] spRS) (GT : Def P w K mg base (CXX P w) 5 "read_telling" ["text", "number"] spRT) : FnOk P w K mg base (CXX P w) 6 f fd ["row", "number"] spRR := by
  refine F.okX scRR (fun vs H Q E h => ?_) (fun cdv A outer s H vs Q E hr h => ?_)
  · obtain ⟨t, n, rfl, _⟩ := h
    rfl
  obtain ⟨t, n, rfl, hok, hnp, q⟩ := h
  refine ⟨_, pss_cons (ps_if (pt_val (pe_bm PySem.F.plainAttrs_str PySem.F.slot_str_startswith PySem.F.type_str_startswith mt_starts (pv 0) (pa_cons pe_str pa_nil)))
      (pss_one (ps_ret (pe_dX GS hr (by decide) (pa_cons (pe_slice sl_str (pv 0) (po_some (pe_callB call_len_str rfl T.len PySem.boot_len (pa_cons pe_str pa_nil))) po_none) (pa_cons (pv 1) pa_nil))))) pss_nil)
    (pss_cons (ps_if (pt_val (pe_bm PySem.F.plainAttrs_str PySem.F.slot_str_startswith PySem.F.type_str_startswith mt_starts (pv 0) (pa_cons pe_str pa_nil)))
      (pss_one (ps_ret (pe_dX GT hr (by decide) (pa_cons (pe_slice sl_str (pv 0) (po_some (pe_callB call_len_str rfl T.len PySem.boot_len (pa_cons pe_str pa_nil))) po_none) (pa_cons (pv 1) pa_nil))))) pss_nil)
    (pss_one (ps_ret pe_non))), ?_⟩
  have hb := big
  cases t with
  | part m i => exact absurd ⟨m, i, rfl⟩ hnp
  | say m ws =>
    have hok : Rw ws := hok
    have ht := hok.text
    have e4 : ("say " : Str).length = 4 := by decide +kernel
    refine ⟨_, rfl, rfl, lineOf (.say m ws), "say ", rfl, rfl, _, rfl, ?_⟩
    show (if Txt.startswith ("say " ++ Str.join " " ws) "say " = true then _ else _ : Prop)
    rw [starts_app]
    refine iteT ?_
    refine ⟨_, rfl, "say ", rfl, (by rw [e4]; omega), _, rfl, lineOf (.say m ws), rfl, (by show ("say " ++ Str.join " " ws).length ≤ _; rw [len_app, e4]; omega), _, rfl, ws, n, ?_, hok, fun v H' g h => q v H' g h⟩
    show [V.str ⟨(cutC ("say " ++ Str.join " " ws) (some ((("say " : Str).length : Nat) : Int)) none).toArray⟩, V.int n] = _
    rw [cut_head]
  | tell m sc ph bs ms =>
    have hok : TlOk sc ph bs ms := hok
    have ht := hok.tl_len
    have el := line_tell (n := m) (sc := sc) (bs := bs) (ms := ms) hok.ne
    have e5 : ("tell " : Str).length = 5 := by decide +kernel
    have e4 : ("say " : Str).length = 4 := by decide +kernel
    rw [el]
    refine ⟨_, rfl, rfl, "tell " ++ tlX sc ph bs ms, "say ", rfl, rfl, _, rfl, ?_⟩
    rw [starts_no]
    refine iteF ?_
    refine ⟨_, rfl, rfl, "tell " ++ tlX sc ph bs ms, "tell ", rfl, rfl, _, rfl, ?_⟩
    rw [starts_app]
    refine iteT ?_
    refine ⟨_, rfl, "tell ", rfl, (by rw [e5]; omega), _, rfl, "tell " ++ tlX sc ph bs ms, rfl, (by rw [len_app, e5]; omega), _, rfl, sc, ph, bs, ms, n, ?_, hok, fun v H' g h => q v H' g h⟩
    rw [cut_head] <;> rfl
theorem scCIR : FnScope ["text"] ["text"] (defScope s_cut_in_rows) := ⟨rfl, rfl, rfl, by decide +kernel, rfl, by decide +kernel, by decide +kernel⟩
set_option maxHeartbeats 4000000 in
theorem ok_cir (F : Fun K "cut_in_rows" "cut_in_rows" s_cut_in_rows f fd) : FnOk P w K mg base CX0 1 f fd ["text"] spCIR := by
  refine F.ok scCIR (fun vs H Q E h => ?_) (fun cdv A outer s H vs Q E hr h => ?_)
  · obtain ⟨ls, rfl, _⟩ := h
    rfl
  obtain ⟨ls, rfl, hls, hz, q⟩ := h
  refine ⟨_, pss_one (ps_ret (pe_ifExp (pt_cmpR op_ne (pv 0) pe_str (nomark _)) (pe_bm PySem.F.plainAttrs_str PySem.F.slot_str_split PySem.F.type_str_split mt_split (pv 0) (pa_cons pe_str pa_nil)) (pe_lst pa_nil))), ?_⟩
  refine ⟨_, rfl, rfl, _, rfl, ?_⟩
  cases ls with
  | nil =>
    refine ite2 (fun z => absurd z (show ¬ (!decide (V.str (Str.join "\n" []) = V.str "")) = true by decide +kernel)) (fun _ => ?_)
    refine ⟨(by show 0 ≤ sizeLine; decide), fun p hp => ?_⟩
    exact q p _ (same_new hp _) hp upd_same
  | cons y r =>
    refine ite2 (fun _ => ?_) (fun z => absurd ?_ z)
    · refine ⟨_, rfl, rfl, Str.join "\n" (y :: r), "\n", rfl, rfl, by decide +kernel, hz, fun p hp => ?_⟩
      have e : Txt.split (Str.join "\n" (y :: r)) "\n" = y :: r := split_join (c := 10) (by simp) fun z hz => (hls z hz).1
      rw [e]
      exact q p _ (same_new hp _) hp upd_same
    · rw [Bool.not_eq_true', decide_eq_false_iff_not]
      intro z
      have z := congrArg Str.length (V.str.inj z)
      have y1 := (hls y List.mem_cons_self).2
      have e0 : ("" : Str).length = 0 := by decide +kernel
      rw [e0] at z
      cases r with
      | nil => 
        have z : y.length = 0 := z
        omega
      | cons y2 r =>
        have z : (y ++ "\n" ++ Str.join "\n" (y2 :: r)).length = 0 := z
        rw [len_app, len_app] at z
        omega
end
end D
namespace D
open PySem L2
def ren : Int → F → F
  | _, .nil => .nil
  | k, .say _ ws r => .say (k + 1) ws (ren (k + 1) r)
  | k, .tell _ sc ph bs ms r => .tell (k + 1) sc ph bs ms (ren (k + 1) r)
  | k, .part _ i r => .part (k + 1) (ren (k + 1) i) (ren (k + 1 + (i.ord.length : Nat)) r)
theorem ren_lines : ∀ (f : F) (k : Int), linesF (ren k f) = linesF f
  | .nil, _ => rfl
  | .say n ws r, k => by
    show lineOf (.say (k + 1) ws) :: linesF (ren (k + 1) r) = lineOf (.say n ws) :: linesF r
    rw [ren_lines r] <;> rfl
  | .tell n sc ph bs ms r, k => by
    show lineOf (.tell (k + 1) sc ph bs ms) :: linesF (ren (k + 1) r) = lineOf (.tell n sc ph bs ms) :: linesF r
    rw [ren_lines r] <;> rfl
  | .part n i r, k => by
    show ("part" : Str) :: (linesF (ren (k + 1) i) ++ (("end" : Str) :: linesF (ren (k + 1 + (i.ord.length : Nat)) r))) = ("part" : Str) :: (linesF i ++ (("end" : Str) :: linesF r))
    rw [ren_lines i, ren_lines r]
theorem ren_len : ∀ (f : F) (k : Int), (ren k f).ord.length = f.ord.length
  | .nil, _ => rfl
  | .say n ws r, k => congrArg (· + 1) (ren_len r _)
  | .tell n sc ph bs ms r, k => congrArg (· + 1) (ren_len r _)
  | .part n i r, k => by
    show ((ren (k + 1) i).ord ++ (ren (k + 1 + (i.ord.length : Nat)) r).ord).length + 1 = (i.ord ++ r.ord).length + 1
    rw [List.length_append, List.length_append, ren_len i, ren_len r]
theorem ren_dep : ∀ (f : F) (k : Int), (ren k f).dep = f.dep
  | .nil, _ => rfl
  | .say n ws r, k => ren_dep r _
  | .tell n sc ph bs ms r, k => ren_dep r _
  | .part n i r, k => by
    show max ((ren (k + 1) i).dep + 1) (ren (k + 1 + (i.ord.length : Nat)) r).dep = max (i.dep + 1) r.dep
    rw [ren_dep i, ren_dep r]
theorem ren_ok : ∀ (f : F) (k : Int), (∀ t ∈ f.ord, TOk t) → ∀ t ∈ (ren k f).ord, TOk t
  | .nil, _, _, _, h => nomatch h
  | .say n ws r, k, ho, t, h => by
    rcases List.mem_cons.mp h with e | e
    · rw [e]; exact ho (.say n ws) List.mem_cons_self
    · exact ren_ok r _ (fun t ht => ho t (List.mem_cons_of_mem _ ht)) t e
  | .tell n sc ph bs ms r, k, ho, t, h => by
    rcases List.mem_cons.mp h with e | e
    · rw [e]; exact ho (.tell n sc ph bs ms) List.mem_cons_self
    · exact ren_ok r _ (fun t ht => ho t (List.mem_cons_of_mem _ ht)) t e
  | .part n i r, k, ho, t, h => by
    rcases List.mem_cons.mp h with e | e
    · rw [e]; trivial
    · rcases List.mem_append.mp e with e | e
      · exact ren_ok i _ (fun t ht => ho t (List.mem_cons_of_mem _ (List.mem_append_left _ ht))) t e
      · exact ren_ok r _ (fun t ht => ho t (List.mem_cons_of_mem _ (List.mem_append_right _ ht))) t e
theorem WrOk.ren {f : F} (h : WrOk f) (k : Int) : WrOk (D.ren k f) := ⟨by rw [ren_dep]; exact h.dep, by rw [ren_len]; exact h.len, ren_ok f k h.ok⟩
def renT (k : Int) : Th → Th
  | .say _ ws => .say (k + 1) ws
  | .tell _ sc ph bs ms => .tell (k + 1) sc ph bs ms
  | .part _ i => .part (k + 1) (ren (k + 1) i)
abbrev Sk := List (Int × List Th)
def fin : List (Option Th) → Int → Sk → Sk
  | [], _, st => st
  | none :: r, k, st => fin r k (match st with | (n, ts) :: (m, us) :: s => (m, us ++ [.part n (F.of ts)]) :: s | s => s)
  | some t :: r, k, st => fin r (k + (t.ord.length : Nat)) (match st with | (n, ts) :: s => (n, ts ++ [renT k t]) :: s | s => s)
theorem fin_none {r : List (Option Th)} {k n m : Int} {ts us : List Th} {s : Sk} : fin (none :: r) k ((n, ts) :: (m, us) :: s) = fin r k ((m, us ++ [.part n (F.of ts)]) :: s) := rfl
theorem fin_some {r : List (Option Th)} {k n : Int} {t : Th} {ts : List Th} {s : Sk} : fin (some t :: r) k ((n, ts) :: s) = fin r (k + (t.ord.length : Nat)) ((n, ts ++ [renT k t]) :: s) := rfl
theorem fin_ths : ∀ (f : F) {r : List (Option Th)} {k n : Int} {ts : List Th} {s : Sk}, fin (f.ths.map some ++ r) k ((n, ts) :: s) = fin r (k + (f.ord.length : Nat)) ((n, ts ++ (ren k f).ths) :: s)
  | .nil, r, k, n, ts, s => by
    show fin r k ((n, ts) :: s) = fin r (k + ((0 : Nat) : Int)) ((n, ts ++ []) :: s)
    rw [List.append_nil, show k + ((0 : Nat) : Int) = k by omega]
  | .say m ws g, r, k, n, ts, s => by
    show fin (g.ths.map some ++ r) (k + ((1 : Nat) : Int)) ((n, ts ++ [.say (k + 1) ws]) :: s) = fin r (k + ((g.ord.length + 1 : Nat) : Int)) ((n, ts ++ (Th.say (k + 1) ws :: (ren (k + 1) g).ths)) :: s)
    rw [show k + ((1 : Nat) : Int) = k + 1 by omega, fin_ths g, List.append_assoc, show k + 1 + (g.ord.length : Nat) = k + ((g.ord.length + 1 : Nat) : Int) by omega] <;> rfl
  | .tell m sc ph bs ms g, r, k, n, ts, s => by
    show fin (g.ths.map some ++ r) (k + ((1 : Nat) : Int)) ((n, ts ++ [.tell (k + 1) sc ph bs ms]) :: s) = fin r (k + ((g.ord.length + 1 : Nat) : Int)) ((n, ts ++ (Th.tell (k + 1) sc ph bs ms :: (ren (k + 1) g).ths)) :: s)
    rw [show k + ((1 : Nat) : Int) = k + 1 by omega, fin_ths g, List.append_assoc, show k + 1 + (g.ord.length : Nat) = k + ((g.ord.length + 1 : Nat) : Int) by omega] <;> rfl
  | .part m i g, r, k, n, ts, s => by
    show fin (g.ths.map some ++ r) (k + ((i.ord.length + 1 : Nat) : Int)) ((n, ts ++ [.part (k + 1) (ren (k + 1) i)]) :: s) = fin r (k + (((i.ord ++ g.ord).length + 1 : Nat) : Int)) ((n, ts ++ (Th.part (k + 1) (ren (k + 1) i) :: (ren (k + 1 + (i.ord.length : Nat)) g).ths)) :: s)
    rw [show k + ((i.ord.length + 1 : Nat) : Int) = k + 1 + (i.ord.length : Nat) by omega, fin_ths g, List.append_assoc, List.length_append, show k + 1 + (i.ord.length : Nat) + (g.ord.length : Nat) = k + ((i.ord.length + g.ord.length + 1 : Nat) : Int) by omega] <;> rfl
theorem fin_open {r : List (Option Th)} {k n m : Int} {ts : List Th} {i : F} {s : Sk} : fin (i.ths.map some ++ none :: r) (k + 1) ((k + 1, []) :: (n, ts) :: s) = fin (some (.part m i) :: r) k ((n, ts) :: s) := by
  rw [fin_ths i, fin_none, fin_some, List.nil_append, of_ths]
  have e : k + 1 + (i.ord.length : Nat) = k + ((Th.part m i).ord.length : Nat) := by
    show _ = k + ((i.ord.length + 1 : Nat) : Int)
    omega
  rw [e] <;> rfl
theorem fin_doc (f : F) : fin (f.ths.map some) 0 [(0, [])] = [(0, (ren 0 f).ths)] := by
  have := fin_ths f (r := []) (k := 0) (n := 0) (ts := []) (s := [])
  rw [List.append_nil] at this
  rw [this] <;> rfl
def dOk : List (Option Th) → Nat → Prop
  | [], d => d = 1
  | none :: r, d => 2 ≤ d ∧ dOk r (d - 1)
  | some t :: r, d => (∀ n i, t = .part n i → i.dep + 1 + d ≤ 9) ∧ 1 ≤ d ∧ dOk r d
theorem dOk_ths : ∀ (f : F) {r : List (Option Th)} {d : Nat}, f.dep + d ≤ 9 → 1 ≤ d → dOk r d → dOk (f.ths.map some ++ r) d
  | .nil, _, _, _, _, h => h
  | .say m ws g, r, d, h1, h2, h => ⟨(fun _ _ z => by cases z), h2, dOk_ths g h1 h2 h⟩
  | .tell m sc ph bs ms g, r, d, h1, h2, h => ⟨(fun _ _ z => by cases z), h2, dOk_ths g h1 h2 h⟩
  | .part m i g, r, d, h1, h2, h => by
    have h1 : max (i.dep + 1) g.dep + d ≤ 9 := h1
    refine ⟨fun n j z => ?_, h2, dOk_ths g (by omega) h2 h⟩
    cases z
    omega
def lvR (H : Hp) (x : Int × List Th) (e : Addr × Addr) : Prop := H e.1 = some (.tup [.int x.1, .ref e.2]) ∧ ∃ xs, H e.2 = some (.lst xs) ∧ thsR H x.2 xs
structure StR (H0 H : Hp) (u : Addr) (st : Sk) (es : List (Addr × Addr)) : Prop where
  same : Same H0 H
  hu : H u = some (.lst (es.reverse.map fun e => V.ref e.1))
  lv : Paired (lvR H) st es
  nd : (u :: es.map Prod.snd).Nodup
  fr : ∀ a ∈ u :: es.map Prod.snd, H0 a = none
theorem lvs_keep {H H' : Hp} (g : TSame H H') : ∀ {st : Sk} {es : List (Addr × Addr)}, Paired (lvR H) st es → (∀ e ∈ es, ∀ o, H e.2 = some o → H' e.2 = some o) → Paired (lvR H') st es
  | _, _, .nil, _ => .nil
  | _ :: _, e :: _, .cons ⟨h1, xs, h2, h3⟩ r, h => .cons ⟨g _ _ h1, xs, h e List.mem_cons_self _ h2, h3.mono g⟩ (lvs_keep g r fun e he => h e (List.mem_cons_of_mem _ he))
theorem StR.add {H0 H : Hp} {u : Addr} {n : Int} {ts : List Th} {s : Sk} {p l : Addr} {es : List (Addr × Addr)} {xs : List V} {t : Th} {v : V} (S : StR H0 H u ((n, ts) :: s) ((p, l) :: es)) (hl : H l = some (.lst xs)) (hx : thsR H ts xs) (ht : thR H t v) :
    StR H0 (upd H l (.lst (xs ++ [v]))) u ((n, ts ++ [t]) :: s) ((p, l) :: es) := by
  have gE : TSame H (upd H l (.lst (xs ++ [v]))) := TSame.lst hl
  have nd := S.nd
  have n1 : u ≠ l := fun z => by rw [z] at nd; simp at nd
  have n2 : ∀ e ∈ es, e.2 ≠ l := fun e he z => by
    rw [List.map_cons, List.nodup_cons, List.nodup_cons] at nd
    exact nd.2.1 (List.mem_map.mpr ⟨e, he, z⟩)
  cases S.lv with
  | cons k r =>
    refine ⟨keep_upd (S.fr l (by simp)) S.same _, by rw [upd_ne n1]; exact S.hu, .cons ⟨gE _ _ k.1, _, upd_same, paired_snocM (hx.mono gE) (ht.mono gE)⟩ (lvs_keep gE r fun e he o z => by rw [upd_ne (n2 e he)]; exact z), S.nd, S.fr⟩
theorem rev_ref (e : Addr × Addr) (es : List (Addr × Addr)) : ((e :: es).reverse.map fun e => V.ref e.1) = (es.reverse.map fun e => V.ref e.1) ++ [V.ref e.1] := by
  rw [List.reverse_cons, List.map_append] <;> rfl
def spEP : Sp := fun vs H Q _ => ∃ (H0 : Hp) (u : Addr) (n m : Int) (ts us : List Th) (s : Sk) (es : List (Addr × Addr)), vs = [.ref u] ∧ StR H0 H u ((n, ts) :: (m, us) :: s) es ∧ us.length ≤ 1000 ∧ ∀ H' es', StR H0 H' u ((m, us ++ [.part n (F.of ts)]) :: s) es' → Q .non H'
section
variable {P : Program} {w : World} {K : PySem.W.Frag} {mg : Str → Option Value} {base : Heap} {f : Addr} {fd : FuncData}
theorem scEP : FnScope ["unended", "ended"] ["unended"] (defScope s_end_part) := ⟨rfl, rfl, rfl, by decide +kernel, rfl, by decide +kernel, by decide +kernel⟩
set_option maxHeartbeats 4000000 in
theorem ok_ep (F : Fun K "end_part" "end_part" s_end_part f fd) (T : Tw K mg) : FnOk P w K mg base CX0 1 f fd ["unended"] spEP := by
  refine F.ok scEP (fun vs H Q E h => ?_) (fun cdv A outer s H vs Q E hr h => ?_)
  · obtain ⟨H0, u, n, m, ts, us, st, es, rfl, _⟩ := h
    rfl
  obtain ⟨H0, u, n, m, ts, us, st, es, rfl, S, hus, q⟩ := h
  refine ⟨_, pss_cons (ps_set (i := 1) scEP.nd rfl (Or.inl rfl) (pe_bm0 PySem.F.plainAttrs_list PySem.F.slot_list_pop PySem.F.type_list_pop mt_pop (pv 0)))
    (pss_one (ps_expr (pe_bm PySem.F.plainAttrs_list PySem.F.slot_list_append PySem.F.type_list_append mt_append (pe_ix ix_tup (pe_ix ix_list (pv 0) (pe_un un_neg pe_int) (fun _ _ => rfl)) pe_int (fun _ _ => rfl)) (pa_cons (pe_tup (pa_cons pe_str (pa_cons (pe_ix ix_tup (pv 1) pe_int (fun _ _ => rfl)) (pa_cons (pe_callTy call_tuple_of rfl T.tuple PyProof.Rows.boot_tuple (pa_cons (pe_ix ix_tup (pv 1) pe_int (fun _ _ => rfl)) pa_nil)) pa_nil)))) pa_nil)))), ?_⟩
  have hb := big
  have lv := S.lv
  cases lv with
  | cons k1 r1 =>
    rename_i e1 es1
    obtain ⟨p1, l1⟩ := e1
    cases r1 with
    | cons k2 r2 =>
      rename_i e2 es2
      obtain ⟨p2, l2⟩ := e2
      obtain ⟨a1, xs1, b1, c1⟩ := k1
      obtain ⟨a2, xs2, b2, c2⟩ := k2
      have hu := S.hu
      rw [rev_ref] at hu
      have nd := S.nd
      have n1 : u ≠ l1 := fun z => by rw [z] at nd; simp at nd
      have n2 : u ≠ l2 := fun z => by rw [z] at nd; simp at nd
      have n12 : l1 ≠ l2 := fun z => by rw [z] at nd; simp at nd
      have fu := S.fr u List.mem_cons_self
      have ev : ((((p2, l2) :: es2).reverse.map fun e => V.ref e.1) ++ [V.ref p1])[((((p2, l2) :: es2).reverse.map fun e => V.ref e.1) ++ [V.ref p1]).length - 1]? = some (.ref p1) := by
        rw [List.length_append, List.length_singleton, Nat.add_sub_cancel, List.getElem?_append_right (Nat.le_refl _), Nat.sub_self] <;> rfl
      refine ⟨_, rfl, .inl ⟨rfl, _, SqL.of hu⟩, u, _, _, rfl, rfl, hu, ev, ?_⟩
      rw [List.dropLast_concat]
      have gA : TSame H (upd H u (.lst (((p2, l2) :: es2).reverse.map fun e => V.ref e.1))) := TSame.lst hu
      have sA : Same H0 (upd H u (.lst (((p2, l2) :: es2).reverse.map fun e => V.ref e.1))) := keep_upd fu S.same _
      have uA : upd H u (.lst (((p2, l2) :: es2).reverse.map fun e => V.ref e.1)) u = some (.lst (((p2, l2) :: es2).reverse.map fun e => V.ref e.1)) := upd_same
      have oA : ∀ b o, u ≠ b → H b = some o → upd H u (.lst (((p2, l2) :: es2).reverse.map fun e => V.ref e.1)) b = some o := fun b o hb e => by rw [upd_ne (Ne.symm hb)]; exact e
      show gName 1 _ _ (upd H u (.lst (((p2, l2) :: es2).reverse.map fun e => V.ref e.1))) _
      generalize upd H u (.lst (((p2, l2) :: es2).reverse.map fun e => V.ref e.1)) = H1 at gA sA uA oA ⊢
      have ue : ∀ e ∈ es2, u ≠ e.2 := fun e he z => by
        rw [List.nodup_cons] at nd
        exact nd.1 (List.mem_cons_of_mem _ (List.mem_cons_of_mem _ (List.mem_map.mpr ⟨e, he, z.symm⟩)))
      have S1 : StR H0 H1 u ((m, us) :: st) ((p2, l2) :: es2) := by
        refine ⟨sA, uA, .cons ⟨gA _ _ a2, xs2, oA _ _ n2 b2, c2.mono gA⟩ (lvs_keep gA r2 fun e he o z => oA _ _ (ue e he) z), ?_, fun a ha => S.fr a ?_⟩
        · simp only [List.map_cons, List.nodup_cons, List.mem_cons, not_or] at nd ⊢
          exact ⟨⟨nd.1.2.1, nd.1.2.2⟩, nd.2.2⟩
        · rcases List.mem_cons.mp ha with z | z
          · rw [z]; exact List.mem_cons_self
          · exact List.mem_cons_of_mem _ (List.mem_cons_of_mem _ z)
      have a1' := gA _ _ a1
      have b1' := oA _ _ n1 b1
      have uA' := uA
      rw [rev_ref] at uA'
      refine ⟨_, rfl, 1, rfl, u, _, _, _, rfl, rfl, SqL.of uA', atI_last _ _, p2, _, _, _, rfl, rfl, SqT.of (gA _ _ a2), rfl, .inl ⟨rfl, _, SqL.of (oA _ _ n2 b2)⟩, _, rfl, p1, _, _, _, rfl, rfl, SqT.of a1', rfl, _, rfl, p1, _, _, _, rfl, rfl, SqT.of a1', rfl, l1, xs1, rfl, .inl ⟨SqL.of b1', fun t ht => ?_⟩⟩
      have gC := same_new ht (.tup xs1)
      have e3 : upd H1 t (.tup xs1) t = some (.tup xs1) := upd_same
      generalize upd H1 t (.tup xs1) = H3 at gC e3 ⊢
      refine ⟨(by show 3 ≤ sizeLine; decide), fun p hp => ?_⟩
      have gD := same_new hp (.tup [.str "part", .int n, .ref t])
      have e4 : upd H3 p (.tup [.str "part", .int n, .ref t]) p = some (.tup [.str "part", .int n, .ref t]) := upd_same
      generalize upd H3 p (.tup [.str "part", .int n, .ref t]) = H4 at gD e4 ⊢
      have g4 : Same H1 H4 := gC.trans gD
      have S4 : StR H0 H4 u ((m, us) :: st) ((p2, l2) :: es2) := ⟨S1.same.trans g4, g4 _ _ S1.hu, lvs_keep g4.t S1.lv fun e he o z => g4 _ _ z, S1.nd, S1.fr⟩
      have hp4 : thR H4 (.part n (L2.F.of ts)) (.ref p) := ⟨p, t, xs1, rfl, e4, gD _ _ e3, fR_iff.mpr (by rw [ths_of]; exact c1.mono (gA.trans g4.t))⟩
      have b2' := g4 _ _ (oA _ _ n2 b2)
      have hl2 : xs2.length ≤ 1000 := by rw [← paired_lenM c2]; exact hus
      refine ⟨l2, _, _, rfl, rfl, b2', by omega, ?_⟩
      exact q _ _ (S4.add b2' (c2.mono (gA.trans g4.t)) hp4)
end
end D
namespace D
open PySem L2
theorem line_first {t : Th} (h : TOk t) (hn : ¬ ∃ n i, t = .part n i) : 10 ∉ cs (lineOf t) ∧ ∃ c r, cs (lineOf t) = c :: r ∧ (c = 115 ∨ c = 116) := by
  have e1 : cs ("say " : Str) = [115, 97, 121, 32] := by decide +kernel
  have e2 : cs ("tell " : Str) = [116, 101, 108, 108, 32] := by decide +kernel
  have e3 : cs (": " : Str) = [58, 32] := by decide +kernel
  cases t with
  | part n i => exact absurd ⟨n, i, rfl⟩ hn
  | say n ws =>
    have h : Rw ws := h
    have f := h.free (c := 10) (by decide) (by decide)
    show 10 ∉ cs ("say " ++ Str.join " " ws) ∧ ∃ c r, cs ("say " ++ Str.join " " ws) = c :: r ∧ _
    rw [cs_app, e1]
    refine ⟨fun z => ?_, _, _, rfl, .inl rfl⟩
    rcases List.mem_append.mp z with z | z
    · exact absurd z (by decide)
    · exact f z
  | tell n sc ph bs ms =>
    have h : TlOk sc ph bs ms := h
    rw [line_tell h.ne, cs_app, e2]
    refine ⟨fun z => ?_, _, _, rfl, .inr rfl⟩
    rcases List.mem_append.mp z with z | z
    · exact absurd z (by decide)
    · have z : 10 ∈ cs (Str.join " " (pcX sc ph bs) ++ ": " ++ Str.join " " ms) := z
      rw [cs_app, cs_app, e3] at z
      rcases List.mem_append.mp z with z | z
      · rcases List.mem_append.mp z with z | z
        · exact free_join (by decide +kernel) (h.pcs (by decide) (by decide)) z
        · exact absurd z (by decide)
      · exact h.hms.free (by decide) (by decide) z
theorem line_ne {t : Th} (h : TOk t) (hn : ¬ ∃ n i, t = .part n i) : lineOf t ≠ "end" ∧ lineOf t ≠ "part" := by
  obtain ⟨_, c, r, e, hc⟩ := line_first h hn
  have e1 : cs ("end" : Str) = [101, 110, 100] := by decide +kernel
  have e2 : cs ("part" : Str) = [112, 97, 114, 116] := by decide +kernel
  refine ⟨fun z => ?_, fun z => ?_⟩
  · rw [z, e1] at e
    have := (List.cons.inj e).1
    omega
  · rw [z, e2] at e
    have := (List.cons.inj e).1
    omega
theorem line_in {t : Th} (h : TOk t) (hn : ¬ ∃ n i, t = .part n i) : 10 ∉ cs (lineOf t) ∧ 1 ≤ (lineOf t).length := by
  obtain ⟨a, c, r, e, _⟩ := line_first h hn
  refine ⟨a, ?_⟩
  rw [← cs_len, e, List.length_cons]
  omega
theorem lines_in : ∀ (f : F), (∀ t ∈ f.ord, TOk t) → ∀ x ∈ linesF f, 10 ∉ cs x ∧ 1 ≤ x.length
  | .nil, _, _, h => nomatch h
  | .say n ws r, ho, x, h => by
    rcases List.mem_cons.mp h with e | e
    · rw [e]; exact line_in (ho _ List.mem_cons_self) (fun ⟨_, _, z⟩ => nomatch z)
    · exact lines_in r (fun t ht => ho t (List.mem_cons_of_mem _ ht)) x e
  | .tell n sc ph bs ms r, ho, x, h => by
    rcases List.mem_cons.mp h with e | e
    · rw [e]; exact line_in (ho _ List.mem_cons_self) (fun ⟨_, _, z⟩ => nomatch z)
    · exact lines_in r (fun t ht => ho t (List.mem_cons_of_mem _ ht)) x e
  | .part n i r, ho, x, h => by
    rcases List.mem_cons.mp h with e | e
    · rw [e]; decide +kernel
    · rcases List.mem_append.mp e with e | e
      · exact lines_in i (fun t ht => ho t (List.mem_cons_of_mem _ (List.mem_append_left _ ht))) x e
      · rcases List.mem_cons.mp e with e | e
        · rw [e]; decide +kernel
        · exact lines_in r (fun t ht => ho t (List.mem_cons_of_mem _ (List.mem_append_right _ ht))) x e
theorem WrOk.text {f : F} (h : WrOk f) : (textF f).length + 2 ≤ sizeLine := by
  have e1 : ("\n" : Str).length = 1 := by decide +kernel
  have a := join_len (z := "\n") (m := 5000) (by rw [e1]; exact Nat.le_refl _) (ys := linesF f) (lines_ok f h.ok)
  have b := lines_len f
  have c := h.len
  have d : 5001 * (linesF f).length ≤ 5001 * 400 := Nat.mul_le_mul (Nat.le_refl _) (by omega)
  have e : 5001 * 400 + 2 ≤ sizeLine := by decide
  unfold textF
  omega
theorem okO_ths {f : F} (h : ∀ t ∈ f.ord, TOk t) : ∀ o ∈ f.ths.map some, okO o := by
  intro o ho
  obtain ⟨t, ht, rfl⟩ := List.mem_map.mp ho
  exact fun s hs => h s (ord_of_mem ht hs)
def rem2 (H : Hp) (u l : Addr) : Hp := fun b => if b = u then none else if b = l then none else H b
theorem rem2_same (H : Hp) (u l : Addr) : Same (rem2 H u l) H := fun b o e => by
  unfold rem2 at e
  split at e
  · cases e
  · split at e
    · cases e
    · exact e
theorem rem2_of {H H' : Hp} {u l : Addr} (g : Same H H') (hu : H u = none) (hl : H l = none) : Same H (rem2 H' u l) := fun b o e => by
  unfold rem2
  rw [if_neg (fun z => by rw [z, hu] at e; cases e), if_neg (fun z => by rw [z, hl] at e; cases e)]
  exact g b o e
theorem StR.mv {H0 H H' : Hp} {u : Addr} {st : Sk} {es : List (Addr × Addr)} (S : StR H0 H u st es) (g : Same H H') : StR H0 H' u st es := ⟨S.same.trans g, g _ _ S.hu, lvs_keep g.t S.lv fun e he o z => g _ _ z, S.nd, S.fr⟩
theorem StR.opn {H0 H : Hp} {u : Addr} {st : Sk} {es : List (Addr × Addr)} (S : StR H0 H u st es) {l p : Addr} {n : Int} (hl : H l = none) (hp : upd H l (.lst []) p = none) :
    StR H0 (upd (upd (upd H l (.lst [])) p (.tup [.int n, .ref l])) u (.lst ((es.reverse.map fun e => V.ref e.1) ++ [.ref p]))) u ((n, []) :: st) ((p, l) :: es) := by
  have g1 := same_new hl (.lst [])
  have e1 : upd H l (.lst []) l = some (.lst []) := upd_same
  have nul : l ≠ u := (ne_of_none S.hu hl).symm
  have nel : ∀ e ∈ es, e.2 ≠ l := by
    intro e he z
    obtain ⟨j, hj⟩ := List.getElem?_of_mem he
    obtain ⟨x, _, _, xs, h2, _⟩ := paired_get S.lv hj
    rw [z, hl] at h2
    cases h2
  have fl := S.same.free hl
  generalize upd H l (.lst []) = H1 at hp g1 e1 ⊢
  have g2 := same_new hp (.tup [.int n, .ref l])
  have e2 : upd H1 p (.tup [.int n, .ref l]) p = some (.tup [.int n, .ref l]) := upd_same
  generalize upd H1 p (.tup [.int n, .ref l]) = H2 at g2 e2 ⊢
  have S2 := S.mv (g1.trans g2)
  have gE : TSame H2 (upd H2 u (.lst ((es.reverse.map fun e => V.ref e.1) ++ [.ref p]))) := TSame.lst S2.hu
  have nd := S.nd
  rw [List.nodup_cons] at nd
  refine ⟨keep_upd (S.fr u List.mem_cons_self) S2.same _, by rw [upd_same, rev_ref], .cons ⟨gE _ _ e2, [], by rw [upd_ne nul]; exact g2 _ _ e1, .nil⟩ (lvs_keep gE S2.lv fun e he o z => by rw [upd_ne (fun w => nd.1 (List.mem_map.mpr ⟨e, he, w⟩))]; exact z), ?_, fun a ha => ?_⟩
  · rw [List.map_cons, List.nodup_cons, List.nodup_cons]
    refine ⟨fun z => ?_, fun z => ?_, nd.2⟩
    · rcases List.mem_cons.mp z with z | z
      · exact nul z.symm
      · exact nd.1 z
    · obtain ⟨e, he, z⟩ := List.mem_map.mp z
      exact nel e he z
  · rcases List.mem_cons.mp ha with z | z
    · rw [z]; exact S.fr u List.mem_cons_self
    · rcases List.mem_cons.mp z with z | z
      · rw [z]; exact fl
      · exact S.fr a (List.mem_cons_of_mem _ z)
def spRead : Sp := fun vs H Q _ => ∃ f : F, vs = [.str (textF f)] ∧ WrOk f ∧ f.dep ≤ 8 ∧ ∀ v H', Same H H' → partR H' 0 (ren 0 f) v → Q v H'
section
variable {P : Program} {w : World} {K : PySem.W.Frag} {mg : Str → Option Value} {base : Heap} {f : Addr} {fd : FuncData}
theorem scRead : FnScope ["text", "unended", "number", "at", "row", "thing"] ["text"] (defScope s_read) := ⟨rfl, rfl, rfl, by decide +kernel, rfl, by decide +kernel, by decide +kernel⟩
set_option maxHeartbeats 16000000 in
theorem ok_read (F : Fun K "read" "read" s_read f fd) (T : Tw K mg) (GC : Def P w K mg base CX0 1 "cut_in_rows" ["text"] spCIR) (GE : Def P w K mg base CX0 1 "end_part" ["unended"] spEP) (GR : Def P w K mg base (CXX P w) 6 "read_row" ["row", "number"] spRR) : FnOk P w K mg base (CXX P w) 7 f fd ["text"] spRead := by
  refine F.okX scRead (fun vs H Q E h => ?_) (fun cdv A outer s H vs Q E hr h => ?_)
  · obtain ⟨fo, rfl, _⟩ := h
    rfl
  obtain ⟨fo, rfl, hok, hdep, q⟩ := h
  obtain ⟨t8, h8⟩ := T.deep
  refine ⟨_, pss_cons (ps_set (i := 1) scRead.nd rfl (Or.inl rfl) (pe_lst (pa_cons (pe_tup (pa_cons pe_int (pa_cons (pe_lst pa_nil) pa_nil))) pa_nil)))
    (pss_cons (ps_set (i := 2) scRead.nd rfl (Or.inl rfl) pe_int)
    (pss_cons (ps_for PassesOwn.leaving rfl (pi_enum rfl T.enum (pa_cons (pe_d0 GC hr (by decide) (pa_cons (pv 0) pa_nil)) pa_nil)) (pg_tup rfl (pgs_cons (pg_name (i := 3) scRead.nd rfl (Or.inl rfl)) (pgs_cons (pg_name (i := 4) scRead.nd rfl (Or.inl rfl)) pgs_nil)))
      (pss_cons (ps_if (pt_cmpR op_eq (pv 4) pe_str (nomark _))
        (pss_cons (ps_if (pt_cmpR op_eq (pe_callB call_len_seq rfl T.len PySem.boot_len (pa_cons (pv 1) pa_nil)) pe_int (nomark _)) pss_never pss_nil)
        (pss_cons (ps_expr (pe_d0 GE hr (by decide) (pa_cons (pv 1) pa_nil)))
        (pss_one ps_continue))) pss_nil)
      (pss_cons (ps_aug (i := 2) scRead.nd rfl (Or.inl rfl) pe_int ip_add)
      (pss_cons (ps_if (pt_cmpR op_eq (pv 4) pe_str (nomark _))
        (pss_cons (ps_if (pt_cmpR op_gt (pe_callB call_len_seq rfl T.len PySem.boot_len (pa_cons (pv 1) pa_nil)) (pe_glob (v := .int 8) rfl h8 ⟨_, rfl⟩) (nomark _)) pss_never pss_nil)
        (pss_cons (ps_expr (pe_bm PySem.F.plainAttrs_list PySem.F.slot_list_append PySem.F.type_list_append mt_append (pv 1) (pa_cons (pe_tup (pa_cons (pv 2) (pa_cons (pe_lst pa_nil) pa_nil))) pa_nil)))
        (pss_one ps_continue))) pss_nil)
      (pss_cons (ps_set (i := 5) scRead.nd rfl (Or.inl rfl) (pe_dX GR hr (by decide) (pa_cons (pv 4) (pa_cons (pv 2) pa_nil))))
      (pss_cons (ps_if (pt_cmpR op_isN (pv 5) pe_non (nomark _)) pss_never pss_nil)
      (pss_one (ps_expr (pe_bm PySem.F.plainAttrs_list PySem.F.slot_list_append PySem.F.type_list_append mt_append (pe_ix ix_tup (pe_ix ix_list (pv 1) (pe_un un_neg pe_int) (fun _ _ => rfl)) pe_int (fun _ _ => rfl)) (pa_cons (pv 5) pa_nil))))))))))
    (pss_cons (ps_if (pt_cmpR op_gt (pe_callB call_len_seq rfl T.len PySem.boot_len (pa_cons (pv 1) pa_nil)) pe_int (nomark _)) pss_never pss_nil)
    (pss_one (ps_ret (pe_tup (pa_cons pe_str (pa_cons pe_int (pa_cons (pe_callTy call_tuple_of rfl T.tuple PyProof.Rows.boot_tuple (pa_cons (pe_ix ix_tup (pe_ix ix_list (pv 1) pe_int (fun _ _ => rfl)) pe_int (fun _ _ => rfl)) pa_nil)) pa_nil))))))))), ?_⟩
  have hb := big
  have hlines := lines_len fo
  have hlen := hok.len
  refine ⟨(by show 0 ≤ sizeLine; decide), fun l0 hl0 => ?_⟩
  have ga := same_new hl0 (.lst [])
  have ea : upd H l0 (.lst []) l0 = some (.lst []) := upd_same
  generalize upd H l0 (.lst []) = Ha at ga ea ⊢
  refine ⟨(by show 2 ≤ sizeLine; decide), fun p0 hp0 => ?_⟩
  have gb := same_new hp0 (.tup [.int 0, .ref l0])
  have eb : upd Ha p0 (.tup [.int 0, .ref l0]) p0 = some (.tup [.int 0, .ref l0]) := upd_same
  generalize upd Ha p0 (.tup [.int 0, .ref l0]) = Hb at gb eb ⊢
  refine ⟨(by show 1 ≤ sizeLine; decide), fun u hu => ?_⟩
  have gc := same_new hu (.lst [.ref p0])
  have ec : upd Hb u (.lst [.ref p0]) u = some (.lst [.ref p0]) := upd_same
  have nul : u ≠ l0 := fun z => by rw [z, gb _ _ ea] at hu; cases hu
  have fu : H u = none := (ga.trans gb).free hu
  generalize upd Hb u (.lst [.ref p0]) = Hc at gc ec ⊢
  have gH := (ga.trans gb).trans gc
  refine ⟨_, rfl, linesF fo, rfl, lines_in fo hok.ok, hok.text, fun rp H1 g1 hrc er => ?_⟩
  have e1u := g1 _ _ ec
  have e1p := g1 _ _ (gc _ _ eb)
  have e1l := g1 _ _ (gc _ _ (gb _ _ ea))
  have gH1 := gH.trans g1
  have S0 : StR (rem2 H1 u l0) H1 u [(0, [])] [(p0, l0)] := by
    refine ⟨rem2_same _ _ _, e1u, .cons ⟨e1p, [], e1l, .nil⟩ .nil, by simpa using nul, fun a ha => ?_⟩
    simp only [List.map_cons, List.map_nil, List.mem_cons, List.not_mem_nil, or_false] at ha
    unfold rem2
    rcases ha with rfl | rfl
    · rw [if_pos rfl]
    · rw [if_neg nul.symm, if_pos rfl]
  have hrp : rem2 H1 u l0 rp = some (.lst ((linesF fo).map V.str)) := by
    unfold rem2
    rw [if_neg (fun z => by rw [z, ec] at hrc; cases hrc), if_neg (fun z => by rw [z, gc _ _ (gb _ _ ea)] at hrc; cases hrc)]
    exact er
  have keepH : Same H (rem2 H1 u l0) := rem2_of gH1 fu hl0
  refine ⟨rp, _, rfl, SqL.of er, ?_⟩
  refine for_enum (K := K) (a := rp) (xs := (linesF fo).map V.str) (fun i σ' H' => ∃ (k : Nat) (st : Sk) (es : List (Addr × Addr)) (lt : List (Option Th)) (u3 u4 u5 : Option V), σ' = [some (.str (textF fo)), some (.ref u), some (.int (k : Nat)), u3, u4, u5] ∧ StR (rem2 H1 u l0) H' u st es ∧ fin lt k st = [(0, (ren 0 fo).ths)] ∧ dOk lt st.length ∧ (linesF fo).drop i = lt.flatMap lnO ∧ (∀ o ∈ lt, okO o) ∧ ∀ x ∈ st, x.2.length ≤ i) ?_ (fun i σ' H' _ ⟨_, _, _, _, _, _, _, _, S, _⟩ => SqL.of (S.same _ _ hrp)) ?_ ?_
  · exact ⟨0, _, _, fo.ths.map some, none, none, none, rfl, S0, fin_doc fo, by have := dOk_ths fo (r := []) (d := 1) (by omega) (Nat.le_refl _) rfl; rw [List.append_nil] at this; exact this, lines_flat fo, okO_ths hok.ok, fun x hx => by rw [List.mem_singleton.mp hx]; exact Nat.le_refl _⟩
  · rintro i x σ' H' pe hi ⟨k, st, es, lt, u3, u4, u5, rfl, S, hf, hd, hdr, hoo, hsz⟩ hpe
    rw [List.getElem?_map] at hi
    cases hy : (linesF fo)[i]? with
    | none => rw [hy] at hi; cases hi
    | some y =>
      rw [hy] at hi
      cases hi
      have hil := (List.getElem?_eq_some_iff.mp hy).1
      have hcons : (linesF fo).drop i = y :: (linesF fo).drop (i + 1) := by
        rw [List.drop_eq_getElem_cons hil]
        congr 1
        exact (List.getElem?_eq_some_iff.mp hy).2
      rw [hcons] at hdr
      have gp := same_new hpe (.tup [.int (i : Nat), .str y])
      have S1 : StR (rem2 H1 u l0) (upd H' pe (.tup [.int (i : Nat), .str y])) u st es := ⟨S.same.trans gp, gp _ _ S.hu, lvs_keep gp.t S.lv fun e he o z => gp _ _ z, S.nd, S.fr⟩
      have ep : upd H' pe (.tup [.int (i : Nat), .str y]) pe = some (.tup [.int (i : Nat), .str y]) := upd_same
      generalize upd H' pe (.tup [.int (i : Nat), .str y]) = H2 at S1 ep ⊢
      clear S gp hpe
      refine ⟨pe, _, rfl, SqT.of ep, rfl, _, _, rfl, _, _, rfl, rfl, ?_⟩
      have hesl := paired_lenM S1.lv
      cases lt with
      | nil => cases hdr
      | cons o r =>
        rw [List.flatMap_cons] at hdr
        have hor : ∀ o ∈ r, okO o := fun z hz => hoo z (List.mem_cons_of_mem _ hz)
        have ho1 := hoo o List.mem_cons_self
        cases o with
        | none =>
          obtain ⟨ey, hd2⟩ := List.cons.inj hdr
          subst ey
          obtain ⟨d2, d3⟩ := hd
          match st, S1, hf, d2, d3, hsz, hesl with
          | (n, ts) :: (m, us) :: s, S1, hf, d2, d3, hsz, hesl =>
            refine ⟨_, rfl, rfl, _, rfl, ?_⟩
            refine ite2 (fun _ => ?_) (fun z => absurd (decide_eq_true rfl) z)
            refine ⟨_, rfl, u, _, rfl, .inl (SqL.of S1.hu), rfl, _, rfl, ?_⟩
            refine ite2 (fun z => absurd (V.int.inj (of_decide_eq_true z)) ?_) (fun _ => ?_)
            · rw [List.length_map, List.length_reverse, ← hesl]
              show ¬ ((s.length + 1 + 1 : Nat) : Int) = 1
              omega
            · have hus := hsz (m, us) (by simp)
              refine ⟨_, rfl, _, u, n, m, ts, us, s, es, rfl, S1, by show us.length ≤ 1000; have : us.length ≤ i := hus; omega, fun H3 es3 S3 => ?_⟩
              refine ⟨k, _, es3, r, _, _, _, rfl, S3, hf, d3, hd2, hor, fun x hx => ?_⟩
              rcases List.mem_cons.mp hx with z | z
              · rw [z]
                show (us ++ [_]).length ≤ i + 1
                rw [List.length_append]
                have : us.length ≤ i := hus
                show us.length + 1 ≤ _
                omega
              · have := hsz x (List.mem_cons_of_mem _ (List.mem_cons_of_mem _ z))
                omega
        | some t =>
          obtain ⟨d1, d2, d3⟩ := hd
          match st, S1, hf, d1, d2, d3, hsz, hesl with
          | (n, ts) :: s, S1, hf, d1, d2, d3, hsz, hesl =>
            by_cases hp : ∃ n i, t = .part n i
            · obtain ⟨m, j, rfl⟩ := hp
              obtain ⟨ey, hd2⟩ := List.cons.inj hdr
              subst ey
              refine ⟨_, rfl, rfl, _, rfl, ?_⟩
              refine ite2 (fun z => absurd z (show ¬ decide (V.str "part" = V.str "end") = true by decide)) (fun _ => ?_)
              refine ⟨_, rfl, _, _, rfl, rfl, ?_⟩
              refine ⟨_, rfl, rfl, _, rfl, ?_⟩
              refine ite2 (fun _ => ?_) (fun z => absurd (decide_eq_true rfl) z)
              have d8 := d1 m j rfl
              refine ⟨_, rfl, u, _, rfl, .inl (SqL.of S1.hu), _, _, rfl, rfl, _, rfl, ?_⟩
              rw [List.length_map, List.length_reverse, ← hesl]
              refine ite2 (fun z => absurd (of_decide_eq_true z) (by show ¬ (8 : Int) < ((s.length + 1 : Nat) : Int); have : j.dep + 1 + (s.length + 1) ≤ 9 := d8; omega)) (fun _ => ?_)
              refine ⟨_, rfl, .inl ⟨rfl, _, SqL.of S1.hu⟩, _, rfl, (by show 0 ≤ sizeLine; decide), fun l hl => ?_⟩
              refine ⟨(by show 2 ≤ sizeLine; decide), fun p hp => ?_⟩
              have hu3 := ((same_new hl (.lst [])).trans (same_new hp (.tup [.int ((k : Nat) + 1), .ref l]))) _ _ S1.hu
              refine ⟨u, _, _, rfl, rfl, hu3, by rw [List.length_map, List.length_reverse, ← hesl]; have : j.dep + 1 + (s.length + 1) ≤ 9 := d8; show s.length + 1 < _; omega, ?_⟩
              refine ⟨k + 1, _, _, j.ths.map some ++ none :: r, _, _, _, rfl, S1.opn hl hp, ?_, ?_, ?_, ?_, ?_⟩
              · rw [← hf, ← fin_open (m := m)]
                simp
              · exact dOk_ths j (by show j.dep + (s.length + 1 + 1) ≤ 9; have : j.dep + 1 + (s.length + 1) ≤ 9 := d8; omega) (by show 1 ≤ s.length + 1 + 1; omega) ⟨by show 2 ≤ s.length + 1 + 1; omega, d3⟩
              · rw [hd2, List.flatMap_append, List.flatMap_cons, ← lines_flat]
                exact List.append_assoc _ _ _
              · intro o ho
                rcases List.mem_append.mp ho with z | z
                · exact okO_ths (fun t ht => ho1 t (List.mem_cons_of_mem _ ht)) o z
                · rcases List.mem_cons.mp z with z | z
                  · rw [z]; trivial
                  · exact hor o z
              · intro x hx
                rcases List.mem_cons.mp hx with z | z
                · rw [z]; exact Nat.zero_le _
                · have := hsz x z
                  omega
            · have htok : TOk t := ho1 t List.mem_cons_self
              have eln : lnO (some t) = [lineOf t] := by
                cases t with
                | part n i => exact absurd ⟨n, i, rfl⟩ hp
                | say n ws => rfl
                | tell n sc ph bs ms => rfl
              have etl : t.ord.length = 1 := by
                cases t with
                | part n i => exact absurd ⟨n, i, rfl⟩ hp
                | say n ws => rfl
                | tell n sc ph bs ms => rfl
              have esn : setN ((k : Nat) + 1) t = renT (k : Nat) t := by
                cases t with
                | part n i => exact absurd ⟨n, i, rfl⟩ hp
                | say n ws => rfl
                | tell n sc ph bs ms => rfl
              rw [eln] at hdr
              obtain ⟨ey, hd2⟩ := List.cons.inj hdr
              subst ey
              obtain ⟨ne1, ne2⟩ := line_ne htok hp
              refine ⟨_, rfl, rfl, _, rfl, ?_⟩
              refine ite2 (fun z => absurd (V.str.inj (of_decide_eq_true z)) ne1) (fun _ => ?_)
              refine ⟨_, rfl, _, _, rfl, rfl, ?_⟩
              refine ⟨_, rfl, rfl, _, rfl, ?_⟩
              refine ite2 (fun z => absurd (V.str.inj (of_decide_eq_true z)) ne2) (fun _ => ?_)
              refine ⟨_, rfl, _, rfl, t, (k : Nat) + 1, rfl, htok, hp, fun v H3 g3 h3 => ?_⟩
              obtain ⟨va, vxs, rfl, _⟩ := thR_head h3
              refine ⟨_, rfl, rfl, _, rfl, ?_⟩
              refine ite2 (fun z => absurd (of_decide_eq_true z) (by intro z; cases z)) (fun _ => ?_)
              have S3 := S1.mv g3
              have lv := S3.lv
              match es, lv, S3 with
              | (p, l) :: es', .cons ⟨a1, xs, b1, c1⟩ r1, S3 =>
                have hu3 := S3.hu
                rw [rev_ref] at hu3
                have hxl : xs.length ≤ i := by rw [← paired_lenM c1]; exact hsz (n, ts) List.mem_cons_self
                refine ⟨_, rfl, 1, rfl, u, _, _, _, rfl, rfl, SqL.of hu3, atI_last _ _, p, _, _, _, rfl, rfl, SqT.of a1, rfl, .inl ⟨rfl, _, SqL.of b1⟩, _, rfl, l, _, _, rfl, rfl, b1, by omega, ?_⟩
                refine ⟨k + 1, _, _, r, _, _, _, rfl, S3.add b1 c1 h3, ?_, d3, hd2, hor, ?_⟩
                · rw [← hf, fin_some, etl, esn]
                  simp
                · intro x hx
                  rcases List.mem_cons.mp hx with z | z
                  · rw [z]
                    show (ts ++ [_]).length ≤ i + 1
                    have : ts.length ≤ i := hsz (n, ts) List.mem_cons_self
                    rw [List.length_append]
                    show ts.length + 1 ≤ _
                    omega
                  · have := hsz x (List.mem_cons_of_mem _ z)
                    omega
  · rintro σ' H' ⟨k, st, es, lt, u3, u4, u5, rfl, S, hf, hd, hdr, hoo, hsz⟩
    rw [List.length_map, List.drop_length] at hdr
    cases lt with
    | cons o r =>
      have h := congrArg List.length hdr
      rw [List.flatMap_cons, List.length_append, List.length_nil] at h
      have := lnO_pos o
      omega
    | nil =>
      have hf : st = [(0, (ren 0 fo).ths)] := hf
      subst hf
      have lv := S.lv
      match es, lv, S with
      | [(p, l)], .cons ⟨a1, xs, b1, c1⟩ .nil, S =>
        refine ⟨_, rfl, u, _, rfl, .inl (SqL.of S.hu), _, _, rfl, rfl, _, rfl, ?_⟩
        refine ite2 (fun z => absurd z (show ¬ decide ((1 : Int) < ((1 : Nat) : Int)) = true by decide)) (fun _ => ?_)
        refine ⟨_, rfl, u, _, _, _, rfl, rfl, SqL.of S.hu, rfl, p, _, _, _, rfl, rfl, SqT.of a1, rfl, l, xs, rfl, .inl ⟨SqL.of b1, fun t ht => ?_⟩⟩
        have gC := same_new ht (.tup xs)
        refine ⟨(by show 3 ≤ sizeLine; decide), fun p9 hp9 => ?_⟩
        have gD := same_new hp9 (.tup [.str "part", .int 0, .ref t])
        refine q _ _ ((keepH.trans S.same).trans (gC.trans gD)) ⟨p9, t, xs, rfl, upd_same, gD _ _ upd_same, fR_iff.mpr (c1.mono (gC.trans gD).t)⟩
end
end D
namespace D
open PySem L2
def wout (H : Hp) (as : List Addr) : Hp := fun b => if b ∈ as then none else H b
theorem wout_same (H : Hp) (as : List Addr) : Same (wout H as) H := fun b o e => by
  unfold wout at e
  split at e
  · cases e
  · exact e
theorem wout_in {H : Hp} {as : List Addr} {a : Addr} (h : a ∈ as) : wout H as a = none := if_pos h
theorem wout_no {H : Hp} {as : List Addr} {a : Addr} (h : a ∉ as) : wout H as a = H a := if_neg h
theorem Stk.mv {H0 H H' : Hp} {np ip : Addr} {nums : List Int} {tss : List (List Th)} {ls : List Addr} (S : Stk H0 H np ip nums tss ls) (g : Same H H') : Stk H0 H' np ip nums tss ls :=
  ⟨S.same.trans g, g _ _ S.hn, g _ _ S.hi, lvls_keep g.t S.lv fun l _ o z => g _ _ z, S.nd, S.ni, S.nn, S.ii, S.fn, S.fi, S.fl⟩
theorem Stk.oth {H0 H : Hp} {np ip l : Addr} {nums : List Int} {tss : List (List Th)} {ls : List Addr} {ys : List V} (S : Stk H0 H np ip nums tss ls) (hn : l ∉ np :: ip :: ls) (h0 : H0 l = none) (hl : H l = some (.lst ys)) (o : HO) : Stk H0 (upd H l o) np ip nums tss ls := by
  have n1 : np ≠ l := fun z => hn (by rw [z]; exact List.mem_cons_self)
  have n2 : ip ≠ l := fun z => hn (by rw [z]; exact List.mem_cons_of_mem _ List.mem_cons_self)
  have n3 : ∀ x ∈ ls, x ≠ l := fun x hx z => hn (by rw [← z]; exact List.mem_cons_of_mem _ (List.mem_cons_of_mem _ hx))
  exact ⟨keep_upd h0 S.same _, by rw [upd_ne n1]; exact S.hn, by rw [upd_ne n2]; exact S.hi, lvls_keep (TSame.lst hl) S.lv fun x hx o z => by rw [upd_ne (n3 x hx)]; exact z, S.nd, S.ni, S.nn, S.ii, S.fn, S.fi, S.fl⟩
theorem Stk.own {H0 H : Hp} {np ip : Addr} {nums : List Int} {tss : List (List Th)} {ls : List Addr} (S : Stk H0 H np ip nums tss ls) : Stk (wout H (np :: ip :: ls)) H np ip nums tss ls :=
  ⟨wout_same _ _, S.hn, S.hi, S.lv, S.nd, S.ni, S.nn, S.ii, wout_in List.mem_cons_self, wout_in (List.mem_cons_of_mem _ List.mem_cons_self), fun _ h => wout_in (List.mem_cons_of_mem _ (List.mem_cons_of_mem _ h))⟩
theorem Stk.outer {H0 H H' : Hp} {np ip : Addr} {nums nums' : List Int} {tss tss' : List (List Th)} {ls ls' : List Addr} (S : Stk H0 H np ip nums tss ls) (S' : Stk (wout H (np :: ip :: ls)) H' np ip nums' tss' ls') : Stk H0 H' np ip nums' tss' ls' := by
  have g : Same H0 (wout H (np :: ip :: ls)) := fun b o e => by
    rw [wout_no ?_]
    · exact S.same b o e
    · intro z
      rcases List.mem_cons.mp z with z | z
      · rw [z, S.fn] at e; cases e
      · rcases List.mem_cons.mp z with z | z
        · rw [z, S.fi] at e; cases e
        · rw [S.fl b z] at e; cases e
  exact ⟨g.trans S'.same, S'.hn, S'.hi, S'.lv, S'.nd, S'.ni, S'.nn, S'.ii, S.fn, S.fi, fun l hl => g.free (S'.fl l hl)⟩
def spPl : Sp := fun vs H Q _ => ∃ (v : V) (fo : F), vs = [v] ∧ partR H 0 fo v ∧ WrOk fo ∧ fo.dep ≤ 8 ∧ ∀ v' H', Same H H' → partR H' 0 (ren 0 fo) v' → Q v' H'
def WPl (fo : F) (H : Hp) (da np ip : Addr) : Nat → St → Hp → Prop := fun m σ' H' => ∃ (l : Addr) (ys : List V) (lt : List (Option Th)) (k : Nat) (st : Sk) (ls : List Addr) (u5 : Option V), σ' = [some (.ref da), some (.int (k : Nat)), some (.ref np), some (.ref ip), some (.ref l), u5] ∧ Stk H H' np ip (st.map Prod.fst).reverse (st.map Prod.snd).reverse ls ∧ l ∉ np :: ip :: ls ∧ H l = none ∧ H' l = some (.lst ys) ∧ osR H' lt ys ∧ fin lt k st = [(0, (ren 0 fo).ths)] ∧ dOk lt st.length ∧ (lt.flatMap lnO).length = m ∧ ∀ x ∈ st, x.2.length + m ≤ (linesF fo).length
theorem renT_say (H : Hp) {k : Int} {t : Th} (hn : ¬ ∃ n i, t = .part n i) {v : V} (h : thR H t v) : ∃ a n xs, v = .ref a ∧ H a = some (.tup (.str (knd t) :: .int n :: xs)) ∧ ∀ H' p, TSame H H' → H' p = some (.tup (.str (knd t) :: .int (k + 1) :: xs)) → thR H' (renT k t) (.ref p) := by
  cases t with
  | part n i => exact absurd ⟨n, i, rfl⟩ hn
  | say n ws =>
    obtain ⟨a, x, rfl, h1, h2⟩ := h
    exact ⟨a, n, [x], rfl, h1, fun H' p g e => ⟨p, x, rfl, e, h2.mono g⟩⟩
  | tell n sc ph bs ms =>
    obtain ⟨a, x, y, z, rfl, h1, h2, h3, h4⟩ := h
    exact ⟨a, n, [.str sc, x, y, z], rfl, h1, fun H' p g e => ⟨p, x, y, z, rfl, e, h2.mono g, h3.mono g, h4.mono g⟩⟩
section
variable {P : Program} {w : World} {K : PySem.W.Frag} {mg : Str → Option Value} {base : Heap} {f : Addr} {fd : FuncData}
theorem scPl : FnScope ["_law_doc", "_law_many", "_law_numbers", "_law_inner", "_law_left", "_law_thing_here"] ["_law_doc"] (defScope s_l_plain) := ⟨rfl, rfl, rfl, by decide +kernel, rfl, by decide +kernel, by decide +kernel⟩
set_option maxHeartbeats 16000000 in
theorem ok_pl (F : Fun K "_law_plain" "_law_plain" s_l_plain f fd) (T : Nm mg) (GE : Def P w K mg base CX0 1 "_law_ended" ["_law_numbers", "_law_inner"] spEnded) : FnOk P w K mg base CX0 2 f fd ["_law_doc"] spPl := by
  refine F.ok scPl (fun vs H Q E h => ?_) (fun cdv A outer s H vs Q E hr h => ?_)
  · obtain ⟨v, fo, rfl, _⟩ := h
    rfl
  obtain ⟨v, fo, rfl, hv, hok, hdep, q⟩ := h
  refine ⟨_, pss_cons (ps_set (i := 1) scPl.nd rfl (Or.inl rfl) pe_int)
    (pss_cons (ps_set (i := 2) scPl.nd rfl (Or.inl rfl) (pe_lst (pa_cons pe_int pa_nil)))
    (pss_cons (ps_set (i := 3) scPl.nd rfl (Or.inl rfl) (pe_lst (pa_cons (pe_lst pa_nil) pa_nil)))
    (pss_cons (ps_set (i := 4) scPl.nd rfl (Or.inl rfl) (pe_callTy call_list_of rfl T.list PyProof.Rows.boot_list (pa_cons (pe_ix ix_tup (pv 0) pe_int (fun _ _ => rfl)) pa_nil)))
    (pss_cons (ps_while PassesOwn.never (pt_cmpR (op_neNil hr.units0) (pv 4) (pe_lst pa_nil) (nomark _))
      (pss_cons (ps_set (i := 5) scPl.nd rfl (Or.inl rfl) (pe_bm PySem.F.plainAttrs_list PySem.F.slot_list_pop PySem.F.type_list_pop mt_popAt (pv 4) (pa_cons pe_int pa_nil)))
      (pss_one (ps_if (pt_cmpR op_isN (pv 5) pe_non (nomark _))
        (pss_one (ps_expr (pe_def GE hr (pa_cons (pv 2) (pa_cons (pv 3) pa_nil)))))
        (pss_one (ps_if (pt_cmpR op_eq (pe_ix ix_tup (pv 5) pe_int (fun _ _ => rfl)) pe_str (nomark _))
          (pss_cons (ps_set (i := 1) scPl.nd rfl (Or.inl rfl) (pe_op op_add (pv 1) pe_int))
          (pss_cons (ps_expr (pe_bm PySem.F.plainAttrs_list PySem.F.slot_list_append PySem.F.type_list_append mt_append (pv 2) (pa_cons (pv 1) pa_nil)))
          (pss_cons (ps_expr (pe_bm PySem.F.plainAttrs_list PySem.F.slot_list_append PySem.F.type_list_append mt_append (pv 3) (pa_cons (pe_lst pa_nil) pa_nil)))
          (pss_one (ps_set (i := 4) scPl.nd rfl (Or.inl rfl) (pe_op op_cat (pe_op op_cat (pe_callTy call_list_of rfl T.list PyProof.Rows.boot_list (pa_cons (pe_ix ix_tup (pv 5) pe_int (fun _ _ => rfl)) pa_nil)) (pe_lst (pa_cons pe_non pa_nil))) (pv 4)))))))
          (pss_cons (ps_set (i := 1) scPl.nd rfl (Or.inl rfl) (pe_op op_add (pv 1) pe_int))
          (pss_one (ps_expr (pe_bm PySem.F.plainAttrs_list PySem.F.slot_list_append PySem.F.type_list_append mt_append (pe_ix ix_list (pv 3) (pe_un un_neg pe_int) (fun _ _ => rfl)) (pa_cons (pe_op op_catT (pe_tup (pa_cons (pe_ix ix_tup (pv 5) pe_int (fun _ _ => rfl)) (pa_cons (pv 1) pa_nil))) (pe_slice sl_tupX (pv 5) (po_some pe_int) po_none)) pa_nil)))))))))))
    (pss_one (ps_ret (pe_tup (pa_cons pe_str (pa_cons pe_int (pa_cons (pe_callTy call_tuple_of rfl T.tuple PyProof.Rows.boot_tuple (pa_cons (pe_ix ix_list (pv 3) pe_int (fun _ _ => rfl)) pa_nil)) pa_nil)))))))))), ?_⟩
  have hb := big
  obtain ⟨da, db, zs, rfl, h1, h2, h3⟩ := hv
  have hll := lines_len fo
  have hlen := hok.len
  refine ⟨(by show 1 ≤ sizeLine; decide), fun np hnp => ?_⟩
  have ga := same_new hnp (.lst [.int 0])
  have ea : upd H np (.lst [.int 0]) np = some (.lst [.int 0]) := upd_same
  generalize upd H np (.lst [.int 0]) = Ha at ga ea ⊢
  refine ⟨(by show 0 ≤ sizeLine; decide), fun l0 hl0 => ?_⟩
  have gb := same_new hl0 (.lst [])
  have eb : upd Ha l0 (.lst []) l0 = some (.lst []) := upd_same
  generalize upd Ha l0 (.lst []) = Hb at gb eb ⊢
  refine ⟨(by show 1 ≤ sizeLine; decide), fun ip hip => ?_⟩
  have gc := same_new hip (.lst [.ref l0])
  have ec : upd Hb ip (.lst [.ref l0]) ip = some (.lst [.ref l0]) := upd_same
  have n1 : np ≠ l0 := ne_of_none ea hl0
  have n2 : np ≠ ip := ne_of_none (gb _ _ ea) hip
  have n3 : l0 ≠ ip := ne_of_none eb hip
  have S0 : Stk H (upd Hb ip (.lst [.ref l0])) np ip [0] [[]] [l0] := ⟨(ga.trans gb).trans gc, gc _ _ (gb _ _ ea), ec, .cons ⟨[], gc _ _ eb, .nil⟩ .nil, by simp, n2, by simpa using n1, by simpa using n3.symm, hnp, (ga.trans gb).free hip, fun l hl => by rw [List.mem_singleton.mp hl]; exact ga.free hl0⟩
  generalize upd Hb ip (.lst [.ref l0]) = Hc at S0 gc ec ⊢
  have gH := (ga.trans gb).trans gc
  refine ⟨_, rfl, da, _, _, _, rfl, rfl, SqT.of (gH _ _ h1), rfl, db, _, rfl, .inr (SqT.of (gH _ _ h2)), fun l1 hl1 => ?_⟩
  have gd := same_new hl1 (.lst zs)
  have S1 := S0.mv gd
  have ed : upd Hc l1 (.lst zs) l1 = some (.lst zs) := upd_same
  have nl1 : l1 ∉ np :: ip :: [l0] := by
    have a1 := ne_of_none S0.hn hl1
    have a2 := ne_of_none S0.hi hl1
    have a3 := ne_of_none (gc _ _ eb) hl1
    simp only [List.mem_cons, List.not_mem_nil, or_false, not_or]
    exact ⟨a1.symm, a2.symm, a3.symm⟩
  have fl1 : H l1 = none := gH.free hl1
  generalize upd Hc l1 (.lst zs) = Hd at gd S1 ed ⊢
  refine while_post (WPl fo H da np ip)
    (fun σ' H' => ∃ (k : Nat) (l0 : Addr) (u4 u5 : Option V), σ' = [some (.ref da), some (.int (k : Nat)), some (.ref np), some (.ref ip), u4, u5] ∧ Stk H H' np ip [0] [(ren 0 fo).ths] [l0])
    ⟨_, l1, zs, fo.ths.map some, 0, [(0, [])], [l0], none, rfl, S1, nl1, fl1, ed, osR_some (fR_iff.mp (fR_mono (gH.trans gd).t h3)), fin_doc fo, by have := dOk_ths fo (r := []) (d := 1) (by omega) (Nat.le_refl _) rfl; rw [List.append_nil] at this; exact this, rfl, fun x hx => by rw [List.mem_singleton.mp hx, ← lines_flat]; show 0 + _ ≤ _; omega⟩ ?loop ?rest
  case rest =>
    rintro σ' H' ⟨k, l0, u4, u5, rfl, S⟩
    have lv := S.lv
    cases lv with
    | cons k1 _ =>
      obtain ⟨xs, b1, c1⟩ := k1
      refine ⟨_, rfl, ip, _, _, _, rfl, rfl, SqL.of S.hi, rfl, l0, xs, rfl, .inl ⟨SqL.of b1, fun t ht => ?_⟩⟩
      have gC := same_new ht (.tup xs)
      refine ⟨(by show 3 ≤ sizeLine; decide), fun p9 hp9 => ?_⟩
      have gD := same_new hp9 (.tup [.str "part", .int 0, .ref t])
      exact q _ _ (S.same.trans (gC.trans gD)) ⟨p9, t, xs, rfl, upd_same, gD _ _ upd_same, fR_iff.mpr (c1.mono (gC.trans gD).t)⟩
  rintro R hR m σ' H' ⟨l, ys, lt, k, st, ls, u5, rfl, S, hnl, fl, hl, hlt, hf, hd, hm, hsz⟩
  refine ⟨_, rfl, (by show 0 ≤ sizeLine; decide), fun r0 hr0 => ?_⟩
  have gA := same_new hr0 (.lst [])
  have e3 : upd H' r0 (.lst []) r0 = some (.lst []) := upd_same
  refine ⟨l, r0, ys, rfl, rfl, SqL.of (gA _ _ hl), SqL.of e3, _, rfl, ?_⟩
  have S3 := S.mv gA
  have hl3 := gA _ _ hl
  have hlt3 := osR_mono hlt gA.t
  generalize upd H' r0 (.lst []) = H3 at gA e3 S3 hl3 hlt3 ⊢
  cases hlt with
  | nil =>
    refine iteF (hR _ _ ?_)
    have hd : st.length = 1 := hd
    have hf : st = [(0, (ren 0 fo).ths)] := hf
    subst hf
    have lv := S3.lv
    match ls, lv, S3 with
    | [l0], _, S3 => exact ⟨k, l0, _, _, rfl, S3⟩
  | cons q1 q2 =>
    rename_i o y lr yr
    cases hlt3 with
    | cons k1 k2 =>
      refine iteT ⟨fun σ' H' => ∃ m', m' < m ∧ WPl fo H da np ip m' σ' H', fun _ _ h => h, ?_⟩
      rw [List.flatMap_cons, List.length_append] at hm
      refine ⟨_, rfl, .inl ⟨rfl, _, SqL.of hl3⟩, l, _, 0, 0, _, rfl, rfl, hl3, by decide, by decide, seq0 _ _, rfl, ?_⟩
      have gB : TSame H3 (upd H3 l (.lst yr)) := TSame.lst hl3
      have S4 := S3.oth hnl fl hl3 (.lst yr)
      have e4 : upd H3 l (.lst yr) l = some (.lst yr) := upd_same
      show gName 5 _ _ (upd H3 l (.lst yr)) _
      generalize upd H3 l (.lst yr) = H4 at gB S4 e4 ⊢
      have t4 := oR_mono gB k1
      have r4 : osR H4 lr yr := osR_mono k2 gB
      clear S S3 hl hl3 gB k1 k2 q1 q2 gA e3
      cases o with
      | none =>
        have t4 : y = .non := t4
        subst t4
        have ln1 : (lnO none).length = 1 := rfl
        obtain ⟨d2, d3⟩ := hd
        match st, S4, hf, d2, d3, hsz with
        | (n, ts) :: (mm, us) :: s, S4, hf, d2, d3, hsz =>
          refine ⟨_, rfl, rfl, _, rfl, ?_⟩
          refine ite2 (fun _ => ?_) (fun z => absurd (decide_eq_true rfl) z)
          have en : (((n, ts) :: (mm, us) :: s).map Prod.fst).reverse = (((mm, us) :: s).map Prod.fst).reverse ++ [n] := by simp
          have et : (((n, ts) :: (mm, us) :: s).map Prod.snd).reverse = (s.map Prod.snd).reverse ++ [us, ts] := by simp
          rw [en, et] at S4
          have z1 : ts.length + m ≤ (linesF fo).length := hsz (n, ts) List.mem_cons_self
          have z2 : us.length + m ≤ (linesF fo).length := hsz (mm, us) (List.mem_cons_of_mem _ List.mem_cons_self)
          refine ⟨_, rfl, _, rfl, wout H4 (np :: ip :: ls), np, ip, _, n, _, us, ts, ls, rfl, S4.own, by omega, by omega, fun H5 ls5 S5 => ?_⟩
          have hl0' : wout H4 (np :: ip :: ls) l = some (.lst yr) := by rw [wout_no hnl]; exact e4
          have tS : TSame H4 H5 := fun b xs e => S5.same b _ (by
            rw [wout_no]
            · exact e
            · intro z
              rcases List.mem_cons.mp z with z | z
              · rw [z, S4.hn] at e; cases e
              · rcases List.mem_cons.mp z with z | z
                · rw [z, S4.hi] at e; cases e
                · obtain ⟨j, hj⟩ := List.getElem?_of_mem z
                  obtain ⟨_, _, ws, hw, _⟩ := paired_get S4.lv hj
                  rw [hw] at e; cases e)
          refine ⟨(lr.flatMap lnO).length, by omega, l, yr, lr, k, (mm, us ++ [Th.part n (L2.F.of ts)]) :: s, ls5, _, rfl, ?_, fun z => ?_, fl, S5.same _ _ hl0', osR_mono r4 tS, (show fin lr (k : Nat) ((mm, us ++ [Th.part n (L2.F.of ts)]) :: s) = _ from hf), d3, rfl, fun x hx => ?_⟩
          · have := S4.outer S5
            simpa using this
          · rcases List.mem_cons.mp z with z | z
            · rw [z, S5.fn] at hl0'; cases hl0'
            · rcases List.mem_cons.mp z with z | z
              · rw [z, S5.fi] at hl0'; cases hl0'
              · rw [S5.fl l z] at hl0'; cases hl0'
          · rcases List.mem_cons.mp hx with z | z
            · rw [z]
              show (us ++ [_]).length + _ ≤ _
              rw [List.length_append]
              show us.length + 1 + _ ≤ _
              omega
            · have := hsz x (List.mem_cons_of_mem _ (List.mem_cons_of_mem _ z))
              omega
      | some t =>
        have t4 : thR H4 t y := t4
        obtain ⟨d1, d2, d3⟩ := hd
        match st, S4, hf, d1, d2, d3, hsz with
        | (n, ts) :: s, S4, hf, d1, d2, d3, hsz =>
          obtain ⟨ya, yxs, rfl, hya, hk0, _⟩ := thR_head t4
          refine ⟨_, rfl, rfl, _, rfl, ?_⟩
          refine ite2 (fun z => absurd (of_decide_eq_true z) (by intro z; cases z)) (fun _ => ?_)
          refine ⟨_, rfl, ya, _, _, _, rfl, rfl, SqT.of hya, hk0, rfl, _, rfl, ?_⟩
          refine ite2 (fun d => ?_) (fun d => ?_)
          · obtain ⟨pn, pi, rfl⟩ := (knd_part t).mp d
            obtain ⟨pa, pb, pz, ea', w1, w2, w3⟩ := t4
            cases ea'
            have d8 : pi.dep + 1 + (s.length + 1) ≤ 9 := d1 pn pi rfl
            have lsl : ls.length = s.length + 1 := by
              have := paired_len S4.lv
              simp at this
              omega
            have ell : (lnO (some (.part pn pi))).length = (linesF pi).length + 2 := by
              show (("part" : Str) :: (linesF pi ++ [("end" : Str)])).length = _
              rw [List.length_cons, List.length_append] <;> rfl
            refine ⟨_, rfl, _, _, rfl, rfl, ?_⟩
            refine ⟨_, rfl, .inl ⟨rfl, _, SqL.of S4.hn⟩, _, rfl, np, _, _, rfl, rfl, S4.hn, by simp; omega, ?_⟩
            have eN : ((((n, ts) :: s).map Prod.fst).reverse.map V.int) ++ [V.int ((k : Nat) + 1)] = ((((n, ts) :: s).map Prod.fst).reverse ++ [((k : Nat) + 1 : Int)]).map V.int := by rw [List.map_append] <;> rfl
            rw [eN]
            have i1 : upd H4 np (.lst (((((n, ts) :: s).map Prod.fst).reverse ++ [((k : Nat) + 1 : Int)]).map V.int)) ip = some (.lst (ls.map V.ref)) := by rw [upd_ne S4.ni.symm]; exact S4.hi
            refine ⟨_, rfl, .inl ⟨rfl, _, SqL.of i1⟩, (by show 0 ≤ sizeLine; decide), fun l5 hl5 => ?_⟩
            have i2 := same_new hl5 (.lst []) _ _ i1
            refine ⟨ip, _, _, rfl, rfl, i2, by rw [List.length_map, lsl]; omega, ?_⟩
            have eL : ls.map V.ref ++ [V.ref l5] = (ls ++ [l5]).map V.ref := by rw [List.map_append] <;> rfl
            rw [eL]
            have S5 := S4.begun hl5
            have nlp : l ≠ np := fun z => hnl (by rw [z]; exact List.mem_cons_self)
            have nli : l ≠ ip := fun z => hnl (by rw [z]; exact List.mem_cons_of_mem _ List.mem_cons_self)
            have e5 : upd (upd (upd H4 np (.lst (((((n, ts) :: s).map Prod.fst).reverse ++ [((k : Nat) + 1 : Int)]).map V.int))) l5 (.lst [])) ip (.lst ((ls ++ [l5]).map V.ref)) l = some (.lst yr) := by
              rw [upd_ne nli]
              refine same_new hl5 (.lst []) _ _ ?_
              rw [upd_ne nlp]
              exact e4
            have tS : TSame H4 (upd (upd (upd H4 np (.lst (((((n, ts) :: s).map Prod.fst).reverse ++ [((k : Nat) + 1 : Int)]).map V.int))) l5 (.lst [])) ip (.lst ((ls ++ [l5]).map V.ref))) := ((TSame.lst S4.hn).trans (TSame.new hl5)).trans (TSame.lst i2)
            generalize upd (upd (upd H4 np (.lst (((((n, ts) :: s).map Prod.fst).reverse ++ [((k : Nat) + 1 : Int)]).map V.int))) l5 (.lst [])) ip (.lst ((ls ++ [l5]).map V.ref)) = H6 at S5 e5 tS ⊢
            have w1' := tS _ _ w1
            have w2' := tS _ _ w2
            have r6 := osR_mono r4 tS
            have w3' : osR H6 (pi.ths.map some) pz := osR_some (thsR.mono (fR_iff.mp w3) tS)
            refine ⟨_, rfl, ya, _, _, _, rfl, rfl, SqT.of w1', rfl, pb, _, rfl, .inr (SqT.of w2'), fun l7 hl7 => ?_⟩
            have g7 := same_new hl7 (.lst pz)
            refine ⟨(by show 1 ≤ sizeLine; decide), fun l8 hl8 => ?_⟩
            have g8 := same_new hl8 (.lst [.non])
            have z1 : pz.length = pi.ths.length := by have := paired_len w3'; rw [List.length_map] at this; exact this.symm
            have z2 : yr.length = lr.length := (paired_len r6).symm
            have z3 := ln_len (pi.ths.map some ++ none :: lr)
            have z4 : (pi.ths.map some ++ none :: lr).flatMap lnO = linesF pi ++ (("end" : Str) :: lr.flatMap lnO) := by
              rw [List.flatMap_append, List.flatMap_cons, ← lines_flat] <;> rfl
            have z5 : ((pi.ths.map some ++ none :: lr).flatMap lnO).length = (linesF pi).length + ((lr.flatMap lnO).length + 1) := by rw [z4, List.length_append, List.length_cons]
            rw [z5, List.length_append, List.length_cons, List.length_map] at z3
            have zt : ts.length + m ≤ (linesF fo).length := hsz (n, ts) List.mem_cons_self
            have qn : ([.non] : List V).length = 1 := rfl
            refine ⟨l7, l8, _, _, rfl, rfl, g8 _ _ upd_same, upd_same, by omega, fun l9 hl9 => ?_⟩
            have g9 := same_new hl9 (.lst (pz ++ [.non]))
            have l6' := g9 _ _ (g8 _ _ (g7 _ _ e5))
            refine ⟨_, rfl, l9, l, _, _, rfl, rfl, upd_same, l6', by rw [List.length_append]; omega, fun lA hlA => ?_⟩
            have gA' := same_new hlA (.lst (pz ++ [.non] ++ yr))
            have g79 := (g7.trans g8).trans g9
            have gz := g79.trans gA'
            have S9 := S5.mv g79
            refine ⟨((pi.ths.map some ++ none :: lr).flatMap lnO).length, by rw [z5]; omega, lA, pz ++ [.non] ++ yr, pi.ths.map some ++ none :: lr, k + 1, ((k : Nat) + 1, []) :: (n, ts) :: s, ls ++ [l5], _, rfl, ?_, fun z => ?_, S9.same.free hlA, upd_same, ?_, ?_, ?_, rfl, fun x hx => ?_⟩
            · have := S5.mv gz
              simpa using this
            · rcases List.mem_cons.mp z with z | z
              · exact ne_of_none S9.hn hlA z.symm
              · rcases List.mem_cons.mp z with z | z
                · exact ne_of_none S9.hi hlA z.symm
                · obtain ⟨j, hj⟩ := List.getElem?_of_mem z
                  obtain ⟨_, _, ws, hw, _⟩ := paired_get S9.lv hj
                  rw [hlA] at hw; cases hw
            · rw [show pi.ths.map some ++ none :: lr = pi.ths.map some ++ [none] ++ lr by simp]
              exact paired_app (paired_app (osR_mono w3' gz.t) (.cons (show oR _ none .non from rfl) .nil)) (osR_mono r6 gz.t)
            · rw [← hf, ← fin_open (m := pn)]
              simp
            · exact dOk_ths pi (by show pi.dep + (s.length + 1 + 1) ≤ 9; omega) (by show 1 ≤ s.length + 1 + 1; omega) ⟨by show 2 ≤ s.length + 1 + 1; omega, d3⟩
            · rw [z5]
              rcases List.mem_cons.mp hx with z | z
              · rw [z]
                show 0 + _ ≤ _
                omega
              · have := hsz x z
                omega
          · have hnp' : ¬ ∃ n i, t = .part n i := fun z => d ((knd_part t).mpr z)
            have ell : (lnO (some t)).length = 1 := by
              cases t with
              | part n i => exact absurd ⟨n, i, rfl⟩ hnp'
              | say n ws => rfl
              | tell n sc ph bs ms => rfl
            have etl : t.ord.length = 1 := by
              cases t with
              | part n i => exact absurd ⟨n, i, rfl⟩ hnp'
              | say n ws => rfl
              | tell n sc ph bs ms => rfl
            obtain ⟨a', n', xs', ea', hxs, hmk⟩ := renT_say H4 (k := (k : Nat)) hnp' t4
            cases ea'
            have et : (((n, ts) :: s).map Prod.snd).reverse = (s.map Prod.snd).reverse ++ [ts] := by simp
            have S4' := S4
            rw [et] at S4'
            obtain ⟨m1, m2, em, p1, p2⟩ := paired_split S4'.lv
            cases p2 with
            | cons kk nn =>
              rename_i lt' mt
              cases nn
              subst em
              obtain ⟨xs, b1, c1⟩ := kk
              have zt : ts.length + m ≤ (linesF fo).length := hsz (n, ts) List.mem_cons_self
              have hxl : xs.length ≤ (linesF fo).length := by rw [← paired_len c1]; omega
              have hi4 : H4 ip = some (.lst (m1.map V.ref ++ [V.ref lt'])) := by rw [S4.hi, List.map_append] <;> rfl
              refine ⟨_, rfl, _, _, rfl, rfl, ?_⟩
              refine ⟨_, rfl, 1, rfl, ip, _, _, _, rfl, rfl, SqL.of hi4, atI_last _ _, .inl ⟨rfl, _, SqL.of b1⟩, _, rfl, ya, _, _, _, rfl, rfl, SqT.of hxs, atI_nat (j := 0) (v := V.str (knd t)) rfl, _, rfl, (by show 2 ≤ sizeLine; decide), fun p5 hp5 => ?_⟩
              have g5 := same_new hp5 (.tup [.str (knd t), .int ((k : Nat) + 1)])
              have e5 : upd H4 p5 (.tup [.str (knd t), .int ((k : Nat) + 1)]) p5 = some (.tup [.str (knd t), .int ((k : Nat) + 1)]) := upd_same
              generalize upd H4 p5 (.tup [.str (knd t), .int ((k : Nat) + 1)]) = H5 at g5 e5 ⊢
              refine ⟨_, rfl, 2, rfl, ya, _, rfl, g5 _ _ hxs, fun p6 H6 g6 h6 => ?_⟩
              have ecut : cutV (.str (knd t) :: .int n' :: xs') (some 2) none = xs' := by
                rw [cutV_fromM _ (by decide)]
                rfl
              rw [ecut] at h6
              have x1 : xs' ≠ [] ∧ xs'.length ≤ 10 := by
                cases t with
                | part n i => exact absurd ⟨n, i, rfl⟩ hnp'
                | say nn ws =>
                  obtain ⟨qa, qx, qe, qh, _⟩ := t4
                  cases qe
                  rw [qh] at hxs
                  have := (HO.tup.inj (Option.some.inj hxs))
                  simp at this
                  rw [← this.2.2]
                  simp
                | tell nn sc ph bs ms =>
                  obtain ⟨qa, qx, qy, qz, qe, qh, _⟩ := t4
                  cases qe
                  rw [qh] at hxs
                  have := (HO.tup.inj (Option.some.inj hxs))
                  simp at this
                  rw [← this.2.2]
                  simp
              refine ⟨p5, p6, _, _, rfl, rfl, SqT.of (g6 _ _ e5), SqT.of h6, by simp, by show 2 + xs'.length ≤ _; omega, fun z => absurd z x1.1, fun _ p7 hp7 => ?_⟩
              have g7 := same_new hp7 (.tup ([.str (knd t), .int ((k : Nat) + 1)] ++ xs'))
              have gz := (g5.trans g6).trans g7
              have ht7 := hmk _ p7 gz.t upd_same
              have b7 := gz _ _ b1
              refine ⟨lt', _, _, rfl, rfl, b7, by omega, ?_⟩
              have S8 := S4'.put gz b1 c1 ht7
              have nll : l ≠ lt' := fun z => hnl (by rw [z]; exact List.mem_cons_of_mem _ (List.mem_cons_of_mem _ (List.mem_append_right _ List.mem_cons_self)))
              have tE := TSame.lst (o := .lst (xs ++ [.ref p7])) b7
              refine ⟨(lr.flatMap lnO).length, by omega, l, yr, lr, k + 1, (n, ts ++ [renT (k : Nat) t]) :: s, m1 ++ [lt'], _, rfl, ?_, hnl, fl, by rw [upd_ne nll]; exact gz _ _ e4, osR_mono r4 (gz.t.trans tE), ?_, d3, rfl, fun x hx => ?_⟩
              · simpa using S8
              · rw [← hf, fin_some, etl]
                simp
              · rcases List.mem_cons.mp hx with z | z
                · rw [z]
                  show (ts ++ [_]).length + _ ≤ _
                  rw [List.length_append]
                  show ts.length + 1 + _ ≤ _
                  omega
                · have := hsz x (List.mem_cons_of_mem _ z)
                  omega
end
end D
namespace D
open PySem L2
theorem th_items {X : Cx} {n : Nat} {H : Hp} {t : Th} {u v : V} (h : thR H t u) (h' : thR H t v) (hn : t.need ≤ n + 1) : ∃ a b xs ys, u = .ref a ∧ v = .ref b ∧ H a = some (.tup xs) ∧ H b = some (.tup ys) ∧ SameL X n H xs ys := by
  cases t with
  | say m ws =>
    have hn : max 3 0 ≤ n + 1 := hn
    obtain ⟨a, v0, rfl, q, p⟩ := h
    obtain ⟨b, u0, rfl, q', p'⟩ := h'
    exact ⟨a, b, _, _, rfl, rfl, q, q', fun pins σ s A I hu => .cons (eqS_str _) (.cons (eqS_int _) (.cons (eqS_w I p p' (by omega)) .nil))⟩
  | tell m sc ph bs ms =>
    have hn : max 4 0 ≤ n + 1 := hn
    obtain ⟨a, v1, v2, v3, rfl, q, p1, p2, p3⟩ := h
    obtain ⟨b, u1, u2, u3, rfl, q', r1, r2, r3⟩ := h'
    exact ⟨a, b, _, _, rfl, rfl, q, q', fun pins σ s A I hu => .cons (eqS_str _) (.cons (eqS_int _) (.cons (eqS_str _) (.cons (eqS_w I p1 r1 (by omega)) (.cons (eqS_b I p2 r2 (by omega)) (.cons (eqS_w I p3 r3 (by omega)) .nil)))))⟩
  | part m i =>
    have hn : max (i.need + 2) 0 ≤ n + 1 := hn
    obtain ⟨a, b, zs, rfl, k1, k2, k3⟩ := h
    obtain ⟨c, d, ws, rfl, m1, m2, m3⟩ := h'
    exact ⟨a, c, _, _, rfl, rfl, k1, m1, fun pins σ s A I hu => .cons (eqS_str _) (.cons (eqS_int _) (.cons (eqS_tup I (SqT.of k2) (SqT.of m2) (by omega) (eqS_f I i k3 m3 (by show A.units + 1 + i.need < cLine; omega))) .nil))⟩
theorem dep_tail (f : F) : (L2.F.of (f.ths.drop 1)).dep ≤ f.dep := by
  cases hf : f.ths with
  | nil => exact Nat.zero_le _
  | cons t r =>
    have e : f = F.of (t :: r) := by rw [← hf, of_ths]
    have : (F.of ([t] ++ r)).dep = max (F.of [t]).dep (F.of r).dep := dep_app [t] r
    rw [e]
    show (F.of r).dep ≤ (F.of ([t] ++ r)).dep
    omega
theorem text_ren (f : F) : textF (ren 0 f) = textF f := by
  unfold textF
  rw [ren_lines]
def spLR : Sp := fun vs H Q _ => ∃ (f : F) (v : V), vs = [.str (textF f), v] ∧ WrOk f ∧ f.dep ≤ 8 ∧ partR H 0 (ren 0 f) v ∧ ∀ H', Same H H' → Q (.bl true) H'
def spLaw (K : PySem.W.Frag) : Sp := fun vs H Q _ => ∃ (a : Addr) (ns : List Int), vs = [.ref a] ∧ SqL K H a (ns.map V.int) ∧ ns.length ≤ 63 ∧ ∀ H', Q (.bl true) H'
section
variable {P : Program} {w : World} {K : PySem.W.Frag} {mg : Str → Option Value} {base : Heap} {f : Addr} {fd : FuncData}
abbrev NLR : List Str := ["_law_text", "_law_due", "_law_found"]
theorem scLR : FnScope NLR ["_law_text", "_law_due"] (defScope s_l_read) := ⟨rfl, rfl, rfl, by decide +kernel, rfl, by decide +kernel, by decide +kernel⟩
set_option maxHeartbeats 4000000 in
theorem ok_lr (F : Fun K "_law_read" "_law_read" s_l_read f fd) (T : Nm mg) (kT : PySem.W.kitOne K (.type "tuple") (.type "tuple") = some true) (GR : Def P w K mg base (CXX P w) 7 "read" ["text"] spRead) : FnOk P w K mg base (CXX P w) 8 f fd ["_law_text", "_law_due"] spLR := by
  refine F.okX scLR (fun vs H Q E h => ?_) (fun cdv A outer s H vs Q E hr h => ?_)
  · obtain ⟨fo, v, rfl, _⟩ := h
    rfl
  obtain ⟨fo, v, rfl, hw, hdp, hv, q⟩ := h
  have hu : (A.deeper (PyProof.Rows.envOfC "_law_read" (defScope s_l_read) s.heap.objs.size f cdv)).units + 1 + 30 < cLine := by
    have := hr.units
    omega
  refine ⟨_, pss_cons (ps_set (i := 2) scLR.nd rfl (Or.inl rfl) (pe_dX GR hr (Nat.le_refl _) (pa_cons (pv 0) pa_nil)))
    (pss_one (ps_ret (pe_and (pe_callB call_isi rfl T.isi PyProof.Rows.boot_isinstance (pa_cons (pv 2) (pa_cons (pe_bltn (v := .ty "tuple") rfl T.tuple PyProof.Rows.boot_tuple rfl) pa_nil))) (pe_one (pe_cmpR (op_eqST (n := 30) hu) (pv 2) (pv 1) (nomark _)))))), ?_⟩
  refine ⟨_, rfl, fo, rfl, hw, hdp, fun v2 H1 g1 h1 => ?_⟩
  have hv1 : partR H1 0 (ren 0 fo) v := thR.mono (t := .part 0 (ren 0 fo)) hv g1.t
  have nd := need_dep (ren 0 fo)
  rw [ren_dep] at nd
  obtain ⟨xa, xb, xs, ys, rfl, rfl, hx, hy, hsm⟩ := th_items (X := cxOf (CXX P w) P w K mg base NLR "_law_read" (defScope s_l_read) f cdv A outer s H E) (n := 30) (t := .part 0 (ren 0 fo)) h1 hv1 (by show max ((ren 0 fo).need + 2) 0 ≤ 31; omega)
  refine ⟨_, rfl, _, _, _, _, true, rfl, rfl, .tup hx, kT, _, rfl, ?_⟩
  refine iteT ?_
  exact ⟨_, rfl, _, rfl, xa, xb, xs, ys, rfl, rfl, SqT.of hx, SqT.of hy, hsm, q H1 g1⟩
theorem scLaw : FnScope ["_law_script", "_law_doc", "_law_due", "_law_text", "_law_rest"] ["_law_script"] (defScope s_law) := ⟨rfl, rfl, rfl, by decide +kernel, rfl, by decide +kernel, by decide +kernel⟩
set_option maxHeartbeats 8000000 in
theorem ok_law (F : Fun K "law" "law" s_law f fd) (T : Nm mg) (TW : Tw K mg) (GD : Def P w K mg base CX0 4 "_law_document" ["_law_script", "_law_most"] (spDoc K)) (GL : Def P w K mg base CX0 2 "_law_lines" ["_law_doc"] spLines) (GP : Def P w K mg base CX0 2 "_law_plain" ["_law_doc"] spPl) (GW : Def P w K mg base CX0 14 "written" ["doc"] spWritten) (GR : Def P w K mg base (CXX P w) 7 "read" ["text"] spRead) (GT : Def P w K mg base (CXX P w) 8 "_law_read" ["_law_text", "_law_due"] spLR) :
    FnOk P w K mg base (CXX P w) 16 f fd ["_law_script"] (spLaw K) := by
  refine F.okX scLaw (fun vs H Q E h => ?_) (fun cdv A outer s H vs Q E hr h => ?_)
  · obtain ⟨a, ns, rfl, _⟩ := h
    rfl
  obtain ⟨a, ns, rfl, hS, h63, q⟩ := h
  refine ⟨_, pss_cons (ps_set (i := 1) scLaw.nd rfl (Or.inl rfl) (pe_d0 GD hr (by decide) (pa_cons (pv 0) (pa_cons pe_int pa_nil))))
    (pss_cons (ps_set (i := 2) scLaw.nd rfl (Or.inl rfl) (pe_d0 GP hr (by decide) (pa_cons (pv 1) pa_nil)))
    (pss_cons (ps_set (i := 3) scLaw.nd rfl (Or.inl rfl) (pe_d0 GW hr (by decide) (pa_cons (pv 1) pa_nil)))
    (pss_cons (ps_if (PW.pt (pw_or (pt_not (pt_val (pe_callB call_isi rfl T.isi PyProof.Rows.boot_isinstance (pa_cons (pv 3) (pa_cons (pe_bltn (v := .ty "str") rfl TW.str PyProof.Rows.boot_str rfl) pa_nil))))) (pw_or (pt_not (pt_val (pe_dX GT hr (by decide) (pa_cons (pv 3) (pa_cons (pv 2) pa_nil))))) (pw_or1 (pt_cmpR op_ne (pe_d0 GW hr (by decide) (pa_cons (pv 2) pa_nil)) (pv 3) (nomark _)))))) (pss_one (ps_ret pe_bl)) pss_nil)
    (pss_cons (ps_if (PW.pt (pw_or (pt_not (pt_val (pe_dX GT hr (by decide) (pa_cons (pe_bm PySem.F.plainAttrs_str PySem.F.slot_str_join PySem.F.type_str_join mt_join pe_str (pa_cons (pe_d0 GL hr (by decide) (pa_cons (pv 1) pa_nil)) pa_nil)) (pa_cons (pv 2) pa_nil))))) (pw_or1 (pt_not (pt_val (pe_dX GT hr (by decide) (pa_cons pe_str (pa_cons (pe_tup (pa_cons pe_str (pa_cons pe_int (pa_cons (pe_tup pa_nil) pa_nil)))) pa_nil)))))))) (pss_one (ps_ret pe_bl)) pss_nil)
    (pss_cons (ps_set (i := 4) scLaw.nd rfl (Or.inl rfl) (pe_tup (pa_cons pe_str (pa_cons pe_int (pa_cons (pe_slice sl_tupX (pe_ix ix_tup (pv 1) pe_int (fun _ _ => rfl)) (po_some pe_int) po_none) pa_nil)))))
    (pss_cons (ps_if (pt_not (pt_val (pe_dX GT hr (by decide) (pa_cons (pe_bm PySem.F.plainAttrs_str PySem.F.slot_str_join PySem.F.type_str_join mt_join pe_str (pa_cons (pe_d0 GL hr (by decide) (pa_cons (pv 4) pa_nil)) pa_nil)) (pa_cons (pe_d0 GP hr (by decide) (pa_cons (pv 4) pa_nil)) pa_nil))))) (pss_one (ps_ret pe_bl)) pss_nil)
    (pss_one (ps_ret (pe_cmpR op_eq (pe_d0 GW hr (by decide) (pa_cons (pe_dX GR hr (by decide) (pa_cons (pv 3) pa_nil)) pa_nil)) (pv 3) (nomark _)))))))))), ?_⟩
  have hb := big
  refine ⟨_, rfl, a, ns, 40, rfl, hS, h63, by decide, by decide, fun fo m dv H1 g1 hd hok hm => ?_⟩
  have hm40 : m ≤ 40 := by have : max 6 (40 : Int).toNat = 40 := rfl; omega
  have hlen : fo.ord.length = m := by
    have := hok.perm.length_eq
    rw [List.length_map, List.length_map, List.length_range] at this
    exact this
  have hdp := hok.dep
  have hw : WrOk fo := ⟨by omega, by omega, hok.ok⟩
  have mv : ∀ {Ha Hb : Hp} {g : L2.F} {v : V}, Same Ha Hb → partR Ha 0 g v → partR Hb 0 g v := fun {Ha Hb g v} gg h => thR.mono (t := .part 0 g) h gg.t
  refine ⟨_, rfl, dv, fo, rfl, hd, hw, hdp, fun v2 H2 g2 h2 => ?_⟩
  have hd2 := mv g2 hd
  refine ⟨_, rfl, dv, fo, rfl, hd2, hw, fun H3 g3 => ?_⟩
  have hd3 := mv g3 hd2
  have h3 := mv g3 h2
  refine ⟨_, rfl, _, _, _, _, true, rfl, rfl, .str _, TW.kS, _, rfl, ?_⟩
  refine iteF ?_
  refine ⟨_, rfl, _, rfl, fo, v2, rfl, hw, hdp, h3, fun H4 g4 => ⟨_, rfl, iteF ?_⟩⟩
  have hd4 := mv g4 hd3
  have h4 := mv g4 h3
  refine ⟨_, rfl, v2, ren 0 fo, rfl, h4, hw.ren 0, fun H5 g5 => ?_⟩
  rw [text_ren]
  refine ⟨_, rfl, rfl, _, rfl, ?_⟩
  refine ite2 (fun z => absurd z (by simp)) (fun _ => ?_)
  have hd5 := mv g5 hd4
  have h5 := mv g5 h4
  refine ⟨rfl, _, rfl, dv, 0, fo, rfl, hd5, by omega, hok.ok, fun r H6 g6 e6 => ?_⟩
  refine ⟨_, r, linesF fo, rfl, rfl, .inl (SqL.of e6), hw.join, ?_⟩
  have hd6 := mv g6 hd5
  have h6 := mv g6 h5
  refine ⟨_, rfl, fo, v2, rfl, hw, hdp, h6, fun H7 g7 => ⟨_, rfl, iteF ?_⟩⟩
  have hd7 := mv g7 hd6
  refine ⟨(by show 0 ≤ sizeLine; decide), fun p4 hp4 => ⟨(by show 3 ≤ sizeLine; decide), fun p5 hp5 => ?_⟩⟩
  have k4 := same_new hp4 (.tup [])
  have k5 := same_new hp5 (.tup [.str "part", .int 0, .ref p4])
  refine ⟨.nil, .ref p5, by rw [text_nil] <;> rfl, wr_nil, by decide, ⟨p5, p4, [], rfl, upd_same, k5 _ _ upd_same, rfl⟩, fun H8 g8 => ⟨_, rfl, iteF ?_⟩⟩
  have hd8 := mv ((k4.trans k5).trans g8) hd7
  obtain ⟨da, db, zs, rfl, w1, w2, w3⟩ := hd8
  refine ⟨_, rfl, da, _, _, _, rfl, rfl, SqT.of w1, rfl, 1, rfl, db, _, rfl, w2, fun p8 H9 g9 h9 => ⟨(by show 3 ≤ sizeLine; decide), fun p9 hp9 => ?_⟩⟩
  have gA := same_new hp9 (.tup [.str "part", .int 0, .ref p8])
  have ecut : cutV zs (some 1) none = zs.drop 1 := cutV_fromM zs (by decide)
  rw [ecut] at h9
  have g9A := g9.trans gA
  have wt := hw.tail
  have wd : (L2.F.of (fo.ths.drop 1)).dep ≤ 8 := Nat.le_trans (dep_tail fo) hdp
  have hrest : partR (upd H9 p9 (.tup [.str "part", .int 0, .ref p8])) 0 (L2.F.of (fo.ths.drop 1)) (.ref p9) := by
    refine ⟨p9, p8, zs.drop 1, rfl, upd_same, gA _ _ h9, fR_iff.mpr ?_⟩
    rw [ths_of]
    exact paired_drop1 (thsR.mono (fR_iff.mp w3) g9A.t)
  have wl := wt.len
  generalize upd H9 p9 (.tup [.str "part", .int 0, .ref p8]) = HA at hrest ⊢
  refine ⟨rfl, _, rfl, .ref p9, 0, _, rfl, hrest, by omega, wt.ok, fun rB HB gB eB => ?_⟩
  refine ⟨_, rB, _, rfl, rfl, .inl (SqL.of eB), wt.join, ?_⟩
  refine ⟨_, rfl, .ref p9, _, rfl, mv gB hrest, wt, wd, fun vC HC gC hC => ?_⟩
  refine ⟨_, vC, rfl, wt, wd, hC, fun HD gD => ⟨_, rfl, iteF ?_⟩⟩
  refine ⟨_, rfl, fo, rfl, hw, hdp, fun vE HE gE hE => ?_⟩
  refine ⟨vE, ren 0 fo, rfl, hE, hw.ren 0, fun HF gF => ?_⟩
  rw [text_ren]
  refine ⟨_, rfl, rfl, ?_⟩
  rw [decide_eq_true rfl]
  exact q HF
end
end D
namespace D
open PySem L2
theorem rel_str {s : Str} {t : Tok} {x : Str} (h : s = x) : RelV (.str x) (.str s t) := ⟨t, by rw [h]⟩
def ScObj (o : Obj) : Prop := o.cls = .type "tuple" ∧ ∃ (its : Array Value) (n : Nat), o.data = .seq its n ∧ its.size ≤ sizeLine ∧ Vals (scs.map V.str) its.toList
theorem scs_mk {od : Option Addr} {n : Nat} {sl : Array (Option Value)} {t0 t1 t2 t3 : Tok} {s0 s1 s2 s3 : Str} (h0 : s0 = "all") (h1 : s1 = "part") (h2 : s2 = "here") (h3 : s3 = "else") : ScObj ⟨.type "tuple", od, .seq #[.str s0 t0, .str s1 t1, .str s2 t2, .str s3 t3] n, sl⟩ :=
  ⟨rfl, _, _, rfl, (by show 4 ≤ sizeLine; decide), .cons (rel_str h0) (.cons (rel_str h1) (.cons (rel_str h2) (.cons (rel_str h3) .nil)))⟩
theorem scs_sq {K : PySem.W.Frag} {CS : Addr} (h : ∃ o : Obj, K.lookup CS = some o ∧ ScObj o) (H : Hp) : SqT K H CS (scs.map V.str) := by
  obtain ⟨o, hk, hc, its, n, hd, hz, hv⟩ := h
  exact .inr ⟨o, its, n, hk, hc, hd, hz, hv⟩
end D
namespace D
open PySem L2
theorem on1 {α : Type} {p : List α → Prop} (h : ∀ x0, p [x0]) : ∀ us : List α, us.length = 1 → p us
  | [x0], _ => h x0
theorem on2 {α : Type} {p : List α → Prop} (h : ∀ x0 x1, p [x0, x1]) : ∀ us : List α, us.length = 2 → p us
  | [x0, x1], _ => h x0 x1
theorem on3 {α : Type} {p : List α → Prop} (h : ∀ x0 x1 x2, p [x0, x1, x2]) : ∀ us : List α, us.length = 3 → p us
  | [x0, x1, x2], _ => h x0 x1 x2
theorem on4 {α : Type} {p : List α → Prop} (h : ∀ x0 x1 x2 x3, p [x0, x1, x2, x3]) : ∀ us : List α, us.length = 4 → p us
  | [x0, x1, x2, x3], _ => h x0 x1 x2 x3
set_option maxHeartbeats 8000000 in
theorem all_mk {l : PySem.W.OpenLaw} {w : World} {K : PySem.W.Frag} {h : Heap} {mg : Str → Option Value} {fa CN CF CS f1 f2 f3 f4 f5 f6 f7 f8 f9 f10 f11 f12 f13 f14 f15 f16 f17 f18 f19 f20 f21 f22 f23 f24 f25 f26 f27 f28 f29 f30 f31 f32 f33 : Addr} (X : K.In h) (G : h.Ns mainGlobals mg) (hfa : mg "law" = some (.ref fa))
    {od1 an1 od2 an2 od3 an3 od4 an4 od5 an5 od6 an6 od7 an7 od8 an8 od9 an9 od10 an10 od11 an11 od12 an12 od13 an13 od14 an14 od15 an15 od16 an16 od17 an17 od18 an18 od19 an19 od20 an20 od21 an21 od22 an22 od23 an23 od24 an24 od25 an25 od26 an26 od27 an27 od28 an28 od29 an29 od30 an30 od31 an31 od32 an32 od33 an33 : Option Addr} {sl1 sl2 sl3 sl4 sl5 sl6 sl7 sl8 sl9 sl10 sl11 sl12 sl13 sl14 sl15 sl16 sl17 sl18 sl19 sl20 sl21 sl22 sl23 sl24 sl25 sl26 sl27 sl28 sl29 sl30 sl31 sl32 sl33 : Array (Option Value)} {oc1 kV1 dc1 pm1 cd1 ct1 oc2 kV2 dc2 pm2 cd2 ct2 oc3 kV3 dc3 pm3 cd3 ct3 oc4 kV4 dc4 pm4 cd4 ct4 oc5 kV5 dc5 pm5 cd5 ct5 oc6 kV6 dc6 pm6 cd6 ct6 oc7 kV7 dc7 pm7 cd7 ct7 oc8 kV8 dc8 pm8 cd8 ct8 oc9 kV9 dc9 pm9 cd9 ct9 oc10 kV10 dc10 pm10 cd10 ct10 oc11 kV11 dc11 pm11 cd11 ct11 oc12 kV12 dc12 pm12 cd12 ct12 oc13 kV13 dc13 pm13 cd13 ct13 oc14 kV14 dc14 pm14 cd14 ct14 oc15 kV15 dc15 pm15 cd15 ct15 oc16 kV16 dc16 pm16 cd16 ct16 oc17 kV17 dc17 pm17 cd17 ct17 oc18 kV18 dc18 pm18 cd18 ct18 oc19 kV19 dc19 pm19 cd19 ct19 oc20 kV20 dc20 pm20 cd20 ct20 oc21 kV21 dc21 pm21 cd21 ct21 oc22 kV22 dc22 pm22 cd22 ct22 oc23 kV23 dc23 pm23 cd23 ct23 oc24 kV24 dc24 pm24 cd24 ct24 oc25 kV25 dc25 pm25 cd25 ct25 oc26 kV26 dc26 pm26 cd26 ct26 oc27 kV27 dc27 pm27 cd27 ct27 oc28 kV28 dc28 pm28 cd28 ct28 oc29 kV29 dc29 pm29 cd29 ct29 oc30 kV30 dc30 pm30 cd30 ct30 oc31 kV31 dc31 pm31 cd31 ct31 oc32 kV32 dc32 pm32 cd32 ct32 oc33 kV33 dc33 pm33 cd33 ct33 : Value} {tk0 tk1 tk2 tk3 tk4 tk5 : Tok}
    (a1 : PySem.W.nsIn K mainGlobals "is_word" = some (some (.ref f1))) (l1 : K.lookup f1 = some ⟨oc1, od1, .func (PySem.W.fnOf "is_word" "is_word" (defArgs s_is_word) (defBody s_is_word) (defScope s_is_word) .none kV1 dc1 pm1 an1 cd1 ct1), sl1⟩) (c1 : PySem.W.codeIn K cd1 "is_word" = true) (k1 : PySem.W.keepIn K (.ref f1) = true)
    (a2 : PySem.W.nsIn K mainGlobals "words_of" = some (some (.ref f2))) (l2 : K.lookup f2 = some ⟨oc2, od2, .func (PySem.W.fnOf "words_of" "words_of" (defArgs s_words_of) (defBody s_words_of) (defScope s_words_of) .none kV2 dc2 pm2 an2 cd2 ct2), sl2⟩) (c2 : PySem.W.codeIn K cd2 "words_of" = true) (k2 : PySem.W.keepIn K (.ref f2) = true)
    (a3 : PySem.W.nsIn K mainGlobals "text_of" = some (some (.ref f3))) (l3 : K.lookup f3 = some ⟨oc3, od3, .func (PySem.W.fnOf "text_of" "text_of" (defArgs s_text_of) (defBody s_text_of) (defScope s_text_of) .none kV3 dc3 pm3 an3 cd3 ct3), sl3⟩) (c3 : PySem.W.codeIn K cd3 "text_of" = true) (k3 : PySem.W.keepIn K (.ref f3) = true)
    (a4 : PySem.W.nsIn K mainGlobals "bent" = some (some (.ref f4))) (l4 : K.lookup f4 = some ⟨oc4, od4, .func (PySem.W.fnOf "bent" "bent" (defArgs s_bent) (defBody s_bent) (defScope s_bent) .none kV4 dc4 pm4 an4 cd4 ct4), sl4⟩) (c4 : PySem.W.codeIn K cd4 "bent" = true) (k4 : PySem.W.keepIn K (.ref f4) = true)
    (a5 : PySem.W.nsIn K mainGlobals "forms" = some (some (.ref f5))) (l5 : K.lookup f5 = some ⟨oc5, od5, .func (PySem.W.fnOf "forms" "forms" (defArgs s_forms) (defBody s_forms) (defScope s_forms) .none kV5 dc5 pm5 an5 cd5 ct5), sl5⟩) (c5 : PySem.W.codeIn K cd5 "forms" = true) (k5 : PySem.W.keepIn K (.ref f5) = true)
    (a6 : PySem.W.nsIn K mainGlobals "telling_row" = some (some (.ref f6))) (l6 : K.lookup f6 = some ⟨oc6, od6, .func (PySem.W.fnOf "telling_row" "telling_row" (defArgs s_telling_row) (defBody s_telling_row) (defScope s_telling_row) .none kV6 dc6 pm6 an6 cd6 ct6), sl6⟩) (c6 : PySem.W.codeIn K cd6 "telling_row" = true) (k6 : PySem.W.keepIn K (.ref f6) = true)
    (a7 : PySem.W.nsIn K mainGlobals "rows_within" = some (some (.ref f7))) (l7 : K.lookup f7 = some ⟨oc7, od7, .func (PySem.W.fnOf "rows_within" "rows_within" (defArgs s_rows_within) (defBody s_rows_within) (defScope s_rows_within) .none kV7 dc7 pm7 an7 cd7 ct7), sl7⟩) (c7 : PySem.W.codeIn K cd7 "rows_within" = true) (k7 : PySem.W.keepIn K (.ref f7) = true)
    (a8 : PySem.W.nsIn K mainGlobals "written" = some (some (.ref f8))) (l8 : K.lookup f8 = some ⟨oc8, od8, .func (PySem.W.fnOf "written" "written" (defArgs s_written) (defBody s_written) (defScope s_written) .none kV8 dc8 pm8 an8 cd8 ct8), sl8⟩) (c8 : PySem.W.codeIn K cd8 "written" = true) (k8 : PySem.W.keepIn K (.ref f8) = true)
    (a9 : PySem.W.nsIn K mainGlobals "read_words" = some (some (.ref f9))) (l9 : K.lookup f9 = some ⟨oc9, od9, .func (PySem.W.fnOf "read_words" "read_words" (defArgs s_read_words) (defBody s_read_words) (defScope s_read_words) .none kV9 dc9 pm9 an9 cd9 ct9), sl9⟩) (c9 : PySem.W.codeIn K cd9 "read_words" = true) (k9 : PySem.W.keepIn K (.ref f9) = true)
    (a10 : PySem.W.nsIn K mainGlobals "read_bend" = some (some (.ref f10))) (l10 : K.lookup f10 = some ⟨oc10, od10, .func (PySem.W.fnOf "read_bend" "read_bend" (defArgs s_read_bend) (defBody s_read_bend) (defScope s_read_bend) .none kV10 dc10 pm10 an10 cd10 ct10), sl10⟩) (c10 : PySem.W.codeIn K cd10 "read_bend" = true) (k10 : PySem.W.keepIn K (.ref f10) = true)
    (a11 : PySem.W.nsIn K mainGlobals "read_phrase_and_bends" = some (some (.ref f11))) (l11 : K.lookup f11 = some ⟨oc11, od11, .func (PySem.W.fnOf "read_phrase_and_bends" "read_phrase_and_bends" (defArgs s_read_phrase_and_bends) (defBody s_read_phrase_and_bends) (defScope s_read_phrase_and_bends) .none kV11 dc11 pm11 an11 cd11 ct11), sl11⟩) (c11 : PySem.W.codeIn K cd11 "read_phrase_and_bends" = true) (k11 : PySem.W.keepIn K (.ref f11) = true)
    (a12 : PySem.W.nsIn K mainGlobals "has_forms" = some (some (.ref f12))) (l12 : K.lookup f12 = some ⟨oc12, od12, .func (PySem.W.fnOf "has_forms" "has_forms" (defArgs s_has_forms) (defBody s_has_forms) (defScope s_has_forms) .none kV12 dc12 pm12 an12 cd12 ct12), sl12⟩) (c12 : PySem.W.codeIn K cd12 "has_forms" = true) (k12 : PySem.W.keepIn K (.ref f12) = true)
    (a13 : PySem.W.nsIn K mainGlobals "read_say" = some (some (.ref f13))) (l13 : K.lookup f13 = some ⟨oc13, od13, .func (PySem.W.fnOf "read_say" "read_say" (defArgs s_read_say) (defBody s_read_say) (defScope s_read_say) .none kV13 dc13 pm13 an13 cd13 ct13), sl13⟩) (c13 : PySem.W.codeIn K cd13 "read_say" = true) (k13 : PySem.W.keepIn K (.ref f13) = true)
    (a14 : PySem.W.nsIn K mainGlobals "read_telling" = some (some (.ref f14))) (l14 : K.lookup f14 = some ⟨oc14, od14, .func (PySem.W.fnOf "read_telling" "read_telling" (defArgs s_read_telling) (defBody s_read_telling) (defScope s_read_telling) .none kV14 dc14 pm14 an14 cd14 ct14), sl14⟩) (c14 : PySem.W.codeIn K cd14 "read_telling" = true) (k14 : PySem.W.keepIn K (.ref f14) = true)
    (a15 : PySem.W.nsIn K mainGlobals "read_row" = some (some (.ref f15))) (l15 : K.lookup f15 = some ⟨oc15, od15, .func (PySem.W.fnOf "read_row" "read_row" (defArgs s_read_row) (defBody s_read_row) (defScope s_read_row) .none kV15 dc15 pm15 an15 cd15 ct15), sl15⟩) (c15 : PySem.W.codeIn K cd15 "read_row" = true) (k15 : PySem.W.keepIn K (.ref f15) = true)
    (a16 : PySem.W.nsIn K mainGlobals "cut_in_rows" = some (some (.ref f16))) (l16 : K.lookup f16 = some ⟨oc16, od16, .func (PySem.W.fnOf "cut_in_rows" "cut_in_rows" (defArgs s_cut_in_rows) (defBody s_cut_in_rows) (defScope s_cut_in_rows) .none kV16 dc16 pm16 an16 cd16 ct16), sl16⟩) (c16 : PySem.W.codeIn K cd16 "cut_in_rows" = true) (k16 : PySem.W.keepIn K (.ref f16) = true)
    (a17 : PySem.W.nsIn K mainGlobals "end_part" = some (some (.ref f17))) (l17 : K.lookup f17 = some ⟨oc17, od17, .func (PySem.W.fnOf "end_part" "end_part" (defArgs s_end_part) (defBody s_end_part) (defScope s_end_part) .none kV17 dc17 pm17 an17 cd17 ct17), sl17⟩) (c17 : PySem.W.codeIn K cd17 "end_part" = true) (k17 : PySem.W.keepIn K (.ref f17) = true)
    (a18 : PySem.W.nsIn K mainGlobals "read" = some (some (.ref f18))) (l18 : K.lookup f18 = some ⟨oc18, od18, .func (PySem.W.fnOf "read" "read" (defArgs s_read) (defBody s_read) (defScope s_read) .none kV18 dc18 pm18 an18 cd18 ct18), sl18⟩) (c18 : PySem.W.codeIn K cd18 "read" = true) (k18 : PySem.W.keepIn K (.ref f18) = true)
    (a19 : PySem.W.nsIn K mainGlobals "_law_cell" = some (some (.ref f19))) (l19 : K.lookup f19 = some ⟨oc19, od19, .func (PySem.W.fnOf "_law_cell" "_law_cell" (defArgs s_l_cell) (defBody s_l_cell) (defScope s_l_cell) .none kV19 dc19 pm19 an19 cd19 ct19), sl19⟩) (c19 : PySem.W.codeIn K cd19 "_law_cell" = true) (k19 : PySem.W.keepIn K (.ref f19) = true)
    (a20 : PySem.W.nsIn K mainGlobals "_law_mixed" = some (some (.ref f20))) (l20 : K.lookup f20 = some ⟨oc20, od20, .func (PySem.W.fnOf "_law_mixed" "_law_mixed" (defArgs s_l_mixed) (defBody s_l_mixed) (defScope s_l_mixed) .none kV20 dc20 pm20 an20 cd20 ct20), sl20⟩) (c20 : PySem.W.codeIn K cd20 "_law_mixed" = true) (k20 : PySem.W.keepIn K (.ref f20) = true)
    (a21 : PySem.W.nsIn K mainGlobals "_law_menu" = some (some (.ref f21))) (l21 : K.lookup f21 = some ⟨oc21, od21, .func (PySem.W.fnOf "_law_menu" "_law_menu" (defArgs s_l_menu) (defBody s_l_menu) (defScope s_l_menu) .none kV21 dc21 pm21 an21 cd21 ct21), sl21⟩) (c21 : PySem.W.codeIn K cd21 "_law_menu" = true) (k21 : PySem.W.keepIn K (.ref f21) = true)
    (a22 : PySem.W.nsIn K mainGlobals "_law_plain_words" = some (some (.ref f22))) (l22 : K.lookup f22 = some ⟨oc22, od22, .func (PySem.W.fnOf "_law_plain_words" "_law_plain_words" (defArgs s_l_plain_words) (defBody s_l_plain_words) (defScope s_l_plain_words) .none kV22 dc22 pm22 an22 cd22 ct22), sl22⟩) (c22 : PySem.W.codeIn K cd22 "_law_plain_words" = true) (k22 : PySem.W.keepIn K (.ref f22) = true)
    (a23 : PySem.W.nsIn K mainGlobals "_law_row" = some (some (.ref f23))) (l23 : K.lookup f23 = some ⟨oc23, od23, .func (PySem.W.fnOf "_law_row" "_law_row" (defArgs s_l_row) (defBody s_l_row) (defScope s_l_row) .none kV23 dc23 pm23 an23 cd23 ct23), sl23⟩) (c23 : PySem.W.codeIn K cd23 "_law_row" = true) (k23 : PySem.W.keepIn K (.ref f23) = true)
    (a24 : PySem.W.nsIn K mainGlobals "_law_bends" = some (some (.ref f24))) (l24 : K.lookup f24 = some ⟨oc24, od24, .func (PySem.W.fnOf "_law_bends" "_law_bends" (defArgs s_l_bends) (defBody s_l_bends) (defScope s_l_bends) .none kV24 dc24 pm24 an24 cd24 ct24), sl24⟩) (c24 : PySem.W.codeIn K cd24 "_law_bends" = true) (k24 : PySem.W.keepIn K (.ref f24) = true)
    (a25 : PySem.W.nsIn K mainGlobals "_law_thing" = some (some (.ref f25))) (l25 : K.lookup f25 = some ⟨oc25, od25, .func (PySem.W.fnOf "_law_thing" "_law_thing" (defArgs s_l_thing) (defBody s_l_thing) (defScope s_l_thing) .none kV25 dc25 pm25 an25 cd25 ct25), sl25⟩) (c25 : PySem.W.codeIn K cd25 "_law_thing" = true) (k25 : PySem.W.keepIn K (.ref f25) = true)
    (a26 : PySem.W.nsIn K mainGlobals "_law_number" = some (some (.ref f26))) (l26 : K.lookup f26 = some ⟨oc26, od26, .func (PySem.W.fnOf "_law_number" "_law_number" (defArgs s_l_number) (defBody s_l_number) (defScope s_l_number) .none kV26 dc26 pm26 an26 cd26 ct26), sl26⟩) (c26 : PySem.W.codeIn K cd26 "_law_number" = true) (k26 : PySem.W.keepIn K (.ref f26) = true)
    (a27 : PySem.W.nsIn K mainGlobals "_law_ended" = some (some (.ref f27))) (l27 : K.lookup f27 = some ⟨oc27, od27, .func (PySem.W.fnOf "_law_ended" "_law_ended" (defArgs s_l_ended) (defBody s_l_ended) (defScope s_l_ended) .none kV27 dc27 pm27 an27 cd27 ct27), sl27⟩) (c27 : PySem.W.codeIn K cd27 "_law_ended" = true) (k27 : PySem.W.keepIn K (.ref f27) = true)
    (a28 : PySem.W.nsIn K mainGlobals "_law_document" = some (some (.ref f28))) (l28 : K.lookup f28 = some ⟨oc28, od28, .func (PySem.W.fnOf "_law_document" "_law_document" (defArgs s_l_document) (defBody s_l_document) (defScope s_l_document) .none kV28 dc28 pm28 an28 cd28 ct28), sl28⟩) (c28 : PySem.W.codeIn K cd28 "_law_document" = true) (k28 : PySem.W.keepIn K (.ref f28) = true)
    (a29 : PySem.W.nsIn K mainGlobals "_law_line" = some (some (.ref f29))) (l29 : K.lookup f29 = some ⟨oc29, od29, .func (PySem.W.fnOf "_law_line" "_law_line" (defArgs s_l_line) (defBody s_l_line) (defScope s_l_line) .none kV29 dc29 pm29 an29 cd29 ct29), sl29⟩) (c29 : PySem.W.codeIn K cd29 "_law_line" = true) (k29 : PySem.W.keepIn K (.ref f29) = true)
    (a30 : PySem.W.nsIn K mainGlobals "_law_lines" = some (some (.ref f30))) (l30 : K.lookup f30 = some ⟨oc30, od30, .func (PySem.W.fnOf "_law_lines" "_law_lines" (defArgs s_l_lines) (defBody s_l_lines) (defScope s_l_lines) .none kV30 dc30 pm30 an30 cd30 ct30), sl30⟩) (c30 : PySem.W.codeIn K cd30 "_law_lines" = true) (k30 : PySem.W.keepIn K (.ref f30) = true)
    (a31 : PySem.W.nsIn K mainGlobals "_law_plain" = some (some (.ref f31))) (l31 : K.lookup f31 = some ⟨oc31, od31, .func (PySem.W.fnOf "_law_plain" "_law_plain" (defArgs s_l_plain) (defBody s_l_plain) (defScope s_l_plain) .none kV31 dc31 pm31 an31 cd31 ct31), sl31⟩) (c31 : PySem.W.codeIn K cd31 "_law_plain" = true) (k31 : PySem.W.keepIn K (.ref f31) = true)
    (a32 : PySem.W.nsIn K mainGlobals "_law_read" = some (some (.ref f32))) (l32 : K.lookup f32 = some ⟨oc32, od32, .func (PySem.W.fnOf "_law_read" "_law_read" (defArgs s_l_read) (defBody s_l_read) (defScope s_l_read) .none kV32 dc32 pm32 an32 cd32 ct32), sl32⟩) (c32 : PySem.W.codeIn K cd32 "_law_read" = true) (k32 : PySem.W.keepIn K (.ref f32) = true)
    (a33 : PySem.W.nsIn K mainGlobals "law" = some (some (.ref f33))) (l33 : K.lookup f33 = some ⟨oc33, od33, .func (PySem.W.fnOf "law" "law" (defArgs s_law) (defBody s_law) (defScope s_law) .none kV33 dc33 pm33 an33 cd33 ct33), sl33⟩) (c33 : PySem.W.codeIn K cd33 "law" = true) (k33 : PySem.W.keepIn K (.ref f33) = true)
    (g1 : PySem.W.nsIn K mainGlobals "MOST_SIGNS" = some (some (.int 20 tk0))) (g2 : PySem.W.nsIn K mainGlobals "MOST_WORDS" = some (some (.int 200 tk1))) (g3 : PySem.W.nsIn K mainGlobals "MOST_PHRASE_WORDS" = some (some (.int 4 tk2))) (g4 : PySem.W.nsIn K mainGlobals "MOST_BENDS" = some (some (.int 5 tk3))) (g5 : PySem.W.nsIn K mainGlobals "DEEPEST_PART" = some (some (.int 8 tk4))) (g6 : PySem.W.nsIn K mainGlobals "WORD_SIGNS" = some (some (.str W62 tk5)))
    (z1 : PySem.W.nsIn K mainGlobals "len" = some none) (z2 : PySem.W.nsIn K mainGlobals "range" = some none) (z3 : PySem.W.nsIn K mainGlobals "int" = some none) (z4 : PySem.W.nsIn K mainGlobals "tuple" = some none) (z5 : PySem.W.nsIn K mainGlobals "list" = some none) (z6 : PySem.W.nsIn K mainGlobals "max" = some none) (z7 : PySem.W.nsIn K mainGlobals "min" = some none) (z8 : PySem.W.nsIn K mainGlobals "isinstance" = some none) (z9 : PySem.W.nsIn K mainGlobals "str" = some none) (z10 : PySem.W.nsIn K mainGlobals "all" = some none) (z11 : PySem.W.nsIn K mainGlobals "enumerate" = some none)
    (y1 : PySem.W.nsIn K mainGlobals "NoWord" = some (some (.ref CN))) (y2 : PySem.W.nsIn K mainGlobals "NoForm" = some (some (.ref CF))) (y3 : PySem.W.nsIn K mainGlobals "SCOPES" = some (some (.ref CS)))
    (kS : PySem.W.kitOne K (.type "str") (.type "str") = some true) (kT : PySem.W.kitOne K (.type "tuple") (.type "tuple") = some true) {oSc : Obj} (hSc : K.lookup CS = some oSc) (hSp : ScObj oSc)
    : ∃ fd : FuncData, (∀ (s : Shared) (v : Value), BindsTo s fd ⟨[v], []⟩ [("_law_script", v)]) ∧ ∀ base : Heap, K.In base → base.Ns mainGlobals mg → FnOk l.prog w K mg base (CXX l.prog w) 16 fa fd ["_law_script"] (spLaw K) := by
  have e := hfa.symm.trans (PySem.W.mg_of X G a33)
  cases e
  have nz_len := PySem.W.mg_none_of X G z1
  have nz_range := PySem.W.mg_none_of X G z2
  have nz_int := PySem.W.mg_none_of X G z3
  have nz_tuple := PySem.W.mg_none_of X G z4
  have nz_list := PySem.W.mg_none_of X G z5
  have nz_max := PySem.W.mg_none_of X G z6
  have nz_min := PySem.W.mg_none_of X G z7
  have nz_isinstance := PySem.W.mg_none_of X G z8
  have nz_str := PySem.W.mg_none_of X G z9
  have nz_all := PySem.W.mg_none_of X G z10
  have nz_enumerate := PySem.W.mg_none_of X G z11
  have ng_MOST_SIGNS := PySem.W.mg_of X G g1
  have ng_MOST_WORDS := PySem.W.mg_of X G g2
  have ng_MOST_PHRASE_WORDS := PySem.W.mg_of X G g3
  have ng_MOST_BENDS := PySem.W.mg_of X G g4
  have ng_DEEPEST_PART := PySem.W.mg_of X G g5
  have ng_WORD_SIGNS := PySem.W.mg_of X G g6
  have ny_NoWord := PySem.W.mg_of X G y1
  have ny_NoForm := PySem.W.mg_of X G y2
  have ny_SCOPES := PySem.W.mg_of X G y3
  have F_is_word := fun_mk (st := s_is_word) l1 c1 k1
  have F_words_of := fun_mk (st := s_words_of) l2 c2 k2
  have F_text_of := fun_mk (st := s_text_of) l3 c3 k3
  have F_bent := fun_mk (st := s_bent) l4 c4 k4
  have F_forms := fun_mk (st := s_forms) l5 c5 k5
  have F_telling_row := fun_mk (st := s_telling_row) l6 c6 k6
  have F_rows_within := fun_mk (st := s_rows_within) l7 c7 k7
  have F_written := fun_mk (st := s_written) l8 c8 k8
  have F_read_words := fun_mk (st := s_read_words) l9 c9 k9
  have F_read_bend := fun_mk (st := s_read_bend) l10 c10 k10
  have F_read_phrase_and_bends := fun_mk (st := s_read_phrase_and_bends) l11 c11 k11
  have F_has_forms := fun_mk (st := s_has_forms) l12 c12 k12
  have F_read_say := fun_mk (st := s_read_say) l13 c13 k13
  have F_read_telling := fun_mk (st := s_read_telling) l14 c14 k14
  have F_read_row := fun_mk (st := s_read_row) l15 c15 k15
  have F_cut_in_rows := fun_mk (st := s_cut_in_rows) l16 c16 k16
  have F_end_part := fun_mk (st := s_end_part) l17 c17 k17
  have F_read := fun_mk (st := s_read) l18 c18 k18
  have F__law_cell := fun_mk (st := s_l_cell) l19 c19 k19
  have F__law_mixed := fun_mk (st := s_l_mixed) l20 c20 k20
  have F__law_menu := fun_mk (st := s_l_menu) l21 c21 k21
  have F__law_plain_words := fun_mk (st := s_l_plain_words) l22 c22 k22
  have F__law_row := fun_mk (st := s_l_row) l23 c23 k23
  have F__law_bends := fun_mk (st := s_l_bends) l24 c24 k24
  have F__law_thing := fun_mk (st := s_l_thing) l25 c25 k25
  have F__law_number := fun_mk (st := s_l_number) l26 c26 k26
  have F__law_ended := fun_mk (st := s_l_ended) l27 c27 k27
  have F__law_document := fun_mk (st := s_l_document) l28 c28 k28
  have F__law_line := fun_mk (st := s_l_line) l29 c29 k29
  have F__law_lines := fun_mk (st := s_l_lines) l30 c30 k30
  have F__law_plain := fun_mk (st := s_l_plain) l31 c31 k31
  have F__law_read := fun_mk (st := s_l_read) l32 c32 k32
  have F_law := fun_mk (st := s_law) l33 c33 k33
  have b_is_word := F_is_word.binds (ps := ["thing"]) fun _ _ _ _ _ _ us hl => on1 (p := fun us => bindArgs _ { pos := us } = pure (List.zip _ us)) (fun _ => rfl) us hl
  have b_words_of := F_words_of.binds (ps := ["text"]) fun _ _ _ _ _ _ us hl => on1 (p := fun us => bindArgs _ { pos := us } = pure (List.zip _ us)) (fun _ => rfl) us hl
  have b_text_of := F_text_of.binds (ps := ["words"]) fun _ _ _ _ _ _ us hl => on1 (p := fun us => bindArgs _ { pos := us } = pure (List.zip _ us)) (fun _ => rfl) us hl
  have b_bent := F_bent.binds (ps := ["phrase", "bend"]) fun _ _ _ _ _ _ us hl => on2 (p := fun us => bindArgs _ { pos := us } = pure (List.zip _ us)) (fun _ _ => rfl) us hl
  have b_forms := F_forms.binds (ps := ["phrase", "bends"]) fun _ _ _ _ _ _ us hl => on2 (p := fun us => bindArgs _ { pos := us } = pure (List.zip _ us)) (fun _ _ => rfl) us hl
  have b_telling_row := F_telling_row.binds (ps := ["telling"]) fun _ _ _ _ _ _ us hl => on1 (p := fun us => bindArgs _ { pos := us } = pure (List.zip _ us)) (fun _ => rfl) us hl
  have b_rows_within := F_rows_within.binds (ps := ["part"]) fun _ _ _ _ _ _ us hl => on1 (p := fun us => bindArgs _ { pos := us } = pure (List.zip _ us)) (fun _ => rfl) us hl
  have b_written := F_written.binds (ps := ["doc"]) fun _ _ _ _ _ _ us hl => on1 (p := fun us => bindArgs _ { pos := us } = pure (List.zip _ us)) (fun _ => rfl) us hl
  have b_read_words := F_read_words.binds (ps := ["text"]) fun _ _ _ _ _ _ us hl => on1 (p := fun us => bindArgs _ { pos := us } = pure (List.zip _ us)) (fun _ => rfl) us hl
  have b_read_bend := F_read_bend.binds (ps := ["piece"]) fun _ _ _ _ _ _ us hl => on1 (p := fun us => bindArgs _ { pos := us } = pure (List.zip _ us)) (fun _ => rfl) us hl
  have b_read_phrase_and_bends := F_read_phrase_and_bends.binds (ps := ["pieces"]) fun _ _ _ _ _ _ us hl => on1 (p := fun us => bindArgs _ { pos := us } = pure (List.zip _ us)) (fun _ => rfl) us hl
  have b_has_forms := F_has_forms.binds (ps := ["phrase", "bends"]) fun _ _ _ _ _ _ us hl => on2 (p := fun us => bindArgs _ { pos := us } = pure (List.zip _ us)) (fun _ _ => rfl) us hl
  have b_read_say := F_read_say.binds (ps := ["text", "number"]) fun _ _ _ _ _ _ us hl => on2 (p := fun us => bindArgs _ { pos := us } = pure (List.zip _ us)) (fun _ _ => rfl) us hl
  have b_read_telling := F_read_telling.binds (ps := ["text", "number"]) fun _ _ _ _ _ _ us hl => on2 (p := fun us => bindArgs _ { pos := us } = pure (List.zip _ us)) (fun _ _ => rfl) us hl
  have b_read_row := F_read_row.binds (ps := ["row", "number"]) fun _ _ _ _ _ _ us hl => on2 (p := fun us => bindArgs _ { pos := us } = pure (List.zip _ us)) (fun _ _ => rfl) us hl
  have b_cut_in_rows := F_cut_in_rows.binds (ps := ["text"]) fun _ _ _ _ _ _ us hl => on1 (p := fun us => bindArgs _ { pos := us } = pure (List.zip _ us)) (fun _ => rfl) us hl
  have b_end_part := F_end_part.binds (ps := ["unended"]) fun _ _ _ _ _ _ us hl => on1 (p := fun us => bindArgs _ { pos := us } = pure (List.zip _ us)) (fun _ => rfl) us hl
  have b_read := F_read.binds (ps := ["text"]) fun _ _ _ _ _ _ us hl => on1 (p := fun us => bindArgs _ { pos := us } = pure (List.zip _ us)) (fun _ => rfl) us hl
  have b__law_cell := F__law_cell.binds (ps := ["_law_script", "_law_k"]) fun _ _ _ _ _ _ us hl => on2 (p := fun us => bindArgs _ { pos := us } = pure (List.zip _ us)) (fun _ _ => rfl) us hl
  have b__law_mixed := F__law_mixed.binds (ps := ["_law_number_here"]) fun _ _ _ _ _ _ us hl => on1 (p := fun us => bindArgs _ { pos := us } = pure (List.zip _ us)) (fun _ => rfl) us hl
  have b__law_menu := F__law_menu.binds (ps := ["_law_script"]) fun _ _ _ _ _ _ us hl => on1 (p := fun us => bindArgs _ { pos := us } = pure (List.zip _ us)) (fun _ => rfl) us hl
  have b__law_plain_words := F__law_plain_words.binds (ps := ["_law_menu_here", "_law_cell_here"]) fun _ _ _ _ _ _ us hl => on2 (p := fun us => bindArgs _ { pos := us } = pure (List.zip _ us)) (fun _ _ => rfl) us hl
  have b__law_row := F__law_row.binds (ps := ["_law_cell_here", "_law_menu_here", "_law_many"]) fun _ _ _ _ _ _ us hl => on3 (p := fun us => bindArgs _ { pos := us } = pure (List.zip _ us)) (fun _ _ _ => rfl) us hl
  have b__law_bends := F__law_bends.binds (ps := ["_law_last", "_law_cell_here", "_law_many"]) fun _ _ _ _ _ _ us hl => on3 (p := fun us => bindArgs _ { pos := us } = pure (List.zip _ us)) (fun _ _ _ => rfl) us hl
  have b__law_thing := F__law_thing.binds (ps := ["_law_cell_here", "_law_number_here", "_law_menu_here", "_law_size"]) fun _ _ _ _ _ _ us hl => on4 (p := fun us => bindArgs _ { pos := us } = pure (List.zip _ us)) (fun _ _ _ _ => rfl) us hl
  have b__law_number := F__law_number.binds (ps := ["_law_script", "_law_k"]) fun _ _ _ _ _ _ us hl => on2 (p := fun us => bindArgs _ { pos := us } = pure (List.zip _ us)) (fun _ _ => rfl) us hl
  have b__law_ended := F__law_ended.binds (ps := ["_law_numbers", "_law_inner"]) fun _ _ _ _ _ _ us hl => on2 (p := fun us => bindArgs _ { pos := us } = pure (List.zip _ us)) (fun _ _ => rfl) us hl
  have b__law_document := F__law_document.binds (ps := ["_law_script", "_law_most"]) fun _ _ _ _ _ _ us hl => on2 (p := fun us => bindArgs _ { pos := us } = pure (List.zip _ us)) (fun _ _ => rfl) us hl
  have b__law_line := F__law_line.binds (ps := ["_law_thing_here"]) fun _ _ _ _ _ _ us hl => on1 (p := fun us => bindArgs _ { pos := us } = pure (List.zip _ us)) (fun _ => rfl) us hl
  have b__law_lines := F__law_lines.binds (ps := ["_law_doc"]) fun _ _ _ _ _ _ us hl => on1 (p := fun us => bindArgs _ { pos := us } = pure (List.zip _ us)) (fun _ => rfl) us hl
  have b__law_plain := F__law_plain.binds (ps := ["_law_doc"]) fun _ _ _ _ _ _ us hl => on1 (p := fun us => bindArgs _ { pos := us } = pure (List.zip _ us)) (fun _ => rfl) us hl
  have b__law_read := F__law_read.binds (ps := ["_law_text", "_law_due"]) fun _ _ _ _ _ _ us hl => on2 (p := fun us => bindArgs _ { pos := us } = pure (List.zip _ us)) (fun _ _ => rfl) us hl
  refine ⟨PySem.W.fnOf "law" "law" (defArgs s_law) (defBody s_law) (defScope s_law) .none kV33 dc33 pm33 an33 cd33 ct33, fun s v => .of_eq rfl, fun base _ _ => ?_⟩
  have T : Nm mg := ⟨nz_len, nz_range, nz_int, nz_tuple, nz_list, nz_max, nz_min, nz_isinstance⟩
  have TW : Tw K mg := ⟨nz_len, nz_isinstance, nz_str, nz_all, nz_tuple, nz_enumerate, ⟨_, ng_MOST_SIGNS⟩, ⟨_, ng_WORD_SIGNS⟩, ⟨_, ng_MOST_WORDS⟩, ⟨_, ng_MOST_PHRASE_WORDS⟩, ⟨_, ng_MOST_BENDS⟩, ⟨_, ng_DEEPEST_PART⟩, kS⟩
  have TSc : Ts K mg CS := ⟨ny_SCOPES, scs_sq ⟨oSc, hSc, hSp⟩⟩
  have GC := Def.mk' (ok_cell (P := l.prog) (w := w) (base := base) F__law_cell T.len) b__law_cell k19 (PySem.W.mg_of X G a19)
  have GX := Def.mk' (ok_mixed (P := l.prog) (w := w) (base := base) F__law_mixed) b__law_mixed k20 (PySem.W.mg_of X G a20)
  have GM := Def.mk' (ok_menu F__law_menu T GC GX) b__law_menu k21 (PySem.W.mg_of X G a21)
  have GPW := Def.mk' (ok_plain (P := l.prog) (w := w) (base := base) F__law_plain_words T) b__law_plain_words k22 (PySem.W.mg_of X G a22)
  have GR := Def.mk' (ok_row F__law_row T GX) b__law_row k23 (PySem.W.mg_of X G a23)
  have GB := Def.mk' (ok_bends F__law_bends T GX) b__law_bends k24 (PySem.W.mg_of X G a24)
  have GH := Def.mk' (ok_thing F__law_thing T GX GR GB) b__law_thing k25 (PySem.W.mg_of X G a25)
  have GN := Def.mk' (ok_num F__law_number GC) b__law_number k26 (PySem.W.mg_of X G a26)
  have GE := Def.mk' (ok_ended (P := l.prog) (w := w) (base := base) F__law_ended T) b__law_ended k27 (PySem.W.mg_of X G a27)
  have GD := Def.mk' (ok_doc F__law_document T GC GM GPW GN GH GE) b__law_document k28 (PySem.W.mg_of X G a28)
  have GTX := Def.mk' (ok_text (P := l.prog) (w := w) (base := base) F_text_of) b_text_of k3 (PySem.W.mg_of X G a3)
  have GTR := Def.mk' (ok_trow F_telling_row GTX) b_telling_row k6 (PySem.W.mg_of X G a6)
  have GRW := Def.mk' (ok_rows F_rows_within b_rows_within k7 (PySem.W.mg_of X G a7) GTX GTR 11) b_rows_within k7 (PySem.W.mg_of X G a7)
  have GWR := Def.mk' (ok_written F_written GRW) b_written k8 (PySem.W.mg_of X G a8)
  have GLN := Def.mk' (ok_line (P := l.prog) (w := w) (base := base) F__law_line) b__law_line k29 (PySem.W.mg_of X G a29)
  have GLS := Def.mk' (ok_lines F__law_lines T GLN) b__law_lines k30 (PySem.W.mg_of X G a30)
  have GIW := Def.mk' (ok_word (P := l.prog) (w := w) (base := base) F_is_word TW) b_is_word k1 (PySem.W.mg_of X G a1)
  have GWO := Def.mk' (ok_wo F_words_of TW GIW) b_words_of k2 (PySem.W.mg_of X G a2)
  have GRWS := Def.mk' (ok_rws F_read_words TW ny_NoWord GWO) b_read_words k9 (PySem.W.mg_of X G a9)
  have GRB := Def.mk' (ok_rb F_read_bend TW GIW) b_read_bend k10 (PySem.W.mg_of X G a10)
  have GRPB := Def.mk' (ok_rpb F_read_phrase_and_bends TW GIW GRB) b_read_phrase_and_bends k11 (PySem.W.mg_of X G a11)
  have GBT := Def.mk' (ok_bent F_bent TW GIW) b_bent k4 (PySem.W.mg_of X G a4)
  have GFM := Def.mk' (ok_forms F_forms TW GBT) b_forms k5 (PySem.W.mg_of X G a5)
  have GHF := Def.mk' (ok_has F_has_forms ny_NoForm GFM) b_has_forms k12 (PySem.W.mg_of X G a12)
  have GRS := Def.mk' (ok_rs F_read_say GRWS) b_read_say k13 (PySem.W.mg_of X G a13)
  have GRT := Def.mk' (ok_rt F_read_telling TW TSc GRPB GRWS GHF) b_read_telling k14 (PySem.W.mg_of X G a14)
  have GRR := Def.mk' (ok_rr F_read_row TW GRS GRT) b_read_row k15 (PySem.W.mg_of X G a15)
  have GCR := Def.mk' (ok_cir (P := l.prog) (w := w) (base := base) F_cut_in_rows) b_cut_in_rows k16 (PySem.W.mg_of X G a16)
  have GEP := Def.mk' (ok_ep (P := l.prog) (w := w) (base := base) F_end_part TW) b_end_part k17 (PySem.W.mg_of X G a17)
  have GRD := Def.mk' (ok_read F_read TW GCR GEP GRR) b_read k18 (PySem.W.mg_of X G a18)
  have GPL := Def.mk' (ok_pl F__law_plain T GE) b__law_plain k31 (PySem.W.mg_of X G a31)
  have GLR := Def.mk' (ok_lr F__law_read T kT GRD) b__law_read k32 (PySem.W.mg_of X G a32)
  exact ok_law F_law T TW GD GLS GPL GWR GRD GLR
theorem walk {l : PySem.W.OpenLaw} {q : Program} {loose : List Str} {XP : (Str → Option Value) → Heap → Prop} {YP : World → Heap → Prop} {d : DefRec} {K : Params → PySem.W.Frag} (hn : l.most = some 63) (hdf : d.params.defaults = [])
    (hY : ∀ (w : World) (h : Heap), YP w h → (K w.params).In h)
    (F : ∀ (w : World) (mg : Str → Option Value) (fa : Addr) (h : Heap), (K w.params).In h → h.Ns mainGlobals mg → mg d.name = some (.ref fa) →
      ∃ fd : FuncData, (∀ (s : Shared) (u : Value), BindsTo s fd ⟨[u], []⟩ [("_law_script", u)]) ∧ ∀ base : Heap, (K w.params).In base → base.Ns mainGlobals mg → FnOk l.prog w (K w.params) mg base (CXX l.prog w) 16 fa fd ["_law_script"] (spLaw (K w.params))) :
    PySem.W.WalkO q loose XP YP l.row.toRowW d [] (fun f vs => PySem.call f vs) :=
  L2.walk_of (n := 63) (k := 16) (x := "_law_script") (CX := fun w => CXX l.prog w) (sp := fun w => (spLaw (K w.params))) hn (by decide) hdf ⟨rfl, by decide, by decide, rfl⟩ hY F (fun _ _ a ns hl _ hS => ⟨a, ns, rfl, hS, hl, fun _ => rfl⟩) fun _ _ _ _ _ ⟨_, _, _, _, _, z⟩ => z
end D
def PySem.W.Fast.tw11247933986860107838 : Nat := 0
def PySem.W.Fast.tw7526703558563520226 : Nat := 0
def PySem.W.Fast.tw2953423654354843681 : Nat := 0
def PySem.W.Fast.tw15791767793913062440 : Nat := 0
def PySem.W.Fast.tw14451985319510811949 : Nat := 0
def PySem.W.Fast.tw11189337773134917428 : Nat := 0
def PySem.W.Fast.tw2509371371549333703 : Nat := 0
open PySem PySem.W PyProof.Rows
set_option maxRecDepth 100000 in
set_option maxHeartbeats 0 in
theorem PySem.Challenge.cw_gloss_k16_whole_read_again_holds : PySem.Challenge.rw_gloss_k16_whole_read_again.Holds := by
  w_on; o_law; k_head; (case hw => w_witness2)
  k_fill
  refine D.walk (l := PySem.Challenge.rw_gloss_k16_whole_read_again) rfl rfl (fun w h Y => PySem.W.kIn_of Y) ?F
  case F =>
    intro w mg fa h KX G hmg
    refine' D.all_mk KX G hmg ?a1 ?l1 ?c1 ?k1 ?a2 ?l2 ?c2 ?k2 ?a3 ?l3 ?c3 ?k3 ?a4 ?l4 ?c4 ?k4 ?a5 ?l5 ?c5 ?k5 ?a6 ?l6 ?c6 ?k6 ?a7 ?l7 ?c7 ?k7 ?a8 ?l8 ?c8 ?k8 ?a9 ?l9 ?c9 ?k9 ?a10 ?l10 ?c10 ?k10 ?a11 ?l11 ?c11 ?k11 ?a12 ?l12 ?c12 ?k12 ?a13 ?l13 ?c13 ?k13 ?a14 ?l14 ?c14 ?k14 ?a15 ?l15 ?c15 ?k15 ?a16 ?l16 ?c16 ?k16 ?a17 ?l17 ?c17 ?k17 ?a18 ?l18 ?c18 ?k18 ?a19 ?l19 ?c19 ?k19 ?a20 ?l20 ?c20 ?k20 ?a21 ?l21 ?c21 ?k21 ?a22 ?l22 ?c22 ?k22 ?a23 ?l23 ?c23 ?k23 ?a24 ?l24 ?c24 ?k24 ?a25 ?l25 ?c25 ?k25 ?a26 ?l26 ?c26 ?k26 ?a27 ?l27 ?c27 ?k27 ?a28 ?l28 ?c28 ?k28 ?a29 ?l29 ?c29 ?k29 ?a30 ?l30 ?c30 ?k30 ?a31 ?l31 ?c31 ?k31 ?a32 ?l32 ?c32 ?k32 ?a33 ?l33 ?c33 ?k33 ?g1 ?g2 ?g3 ?g4 ?g5 ?g6 ?z1 ?z2 ?z3 ?z4 ?z5 ?z6 ?z7 ?z8 ?z9 ?z10 ?z11 ?y1 ?y2 ?y3 ?kS ?kT ?hSc ?hSp
    (case a1 => k_is); (case l1 => k_is); (case c1 => k_is); (case k1 => k_is)
    (case a2 => k_is); (case l2 => k_is); (case c2 => k_is); (case k2 => k_is)
    (case a3 => k_is); (case l3 => k_is); (case c3 => k_is); (case k3 => k_is)
    (case a4 => k_is); (case l4 => k_is); (case c4 => k_is); (case k4 => k_is)
    (case a5 => k_is); (case l5 => k_is); (case c5 => k_is); (case k5 => k_is)
    (case a6 => k_is); (case l6 => k_is); (case c6 => k_is); (case k6 => k_is)
    (case a7 => k_is); (case l7 => k_is); (case c7 => k_is); (case k7 => k_is)
    (case a8 => k_is); (case l8 => k_is); (case c8 => k_is); (case k8 => k_is)
    (case a9 => k_is); (case l9 => k_is); (case c9 => k_is); (case k9 => k_is)
    (case a10 => k_is); (case l10 => k_is); (case c10 => k_is); (case k10 => k_is)
    (case a11 => k_is); (case l11 => k_is); (case c11 => k_is); (case k11 => k_is)
    (case a12 => k_is); (case l12 => k_is); (case c12 => k_is); (case k12 => k_is)
    (case a13 => k_is); (case l13 => k_is); (case c13 => k_is); (case k13 => k_is)
    (case a14 => k_is); (case l14 => k_is); (case c14 => k_is); (case k14 => k_is)
    (case a15 => k_is); (case l15 => k_is); (case c15 => k_is); (case k15 => k_is)
    (case a16 => k_is); (case l16 => k_is); (case c16 => k_is); (case k16 => k_is)
    (case a17 => k_is); (case l17 => k_is); (case c17 => k_is); (case k17 => k_is)
    (case a18 => k_is); (case l18 => k_is); (case c18 => k_is); (case k18 => k_is)
    (case a19 => k_is); (case l19 => k_is); (case c19 => k_is); (case k19 => k_is)
    (case a20 => k_is); (case l20 => k_is); (case c20 => k_is); (case k20 => k_is)
    (case a21 => k_is); (case l21 => k_is); (case c21 => k_is); (case k21 => k_is)
    (case a22 => k_is); (case l22 => k_is); (case c22 => k_is); (case k22 => k_is)
    (case a23 => k_is); (case l23 => k_is); (case c23 => k_is); (case k23 => k_is)
    (case a24 => k_is); (case l24 => k_is); (case c24 => k_is); (case k24 => k_is)
    (case a25 => k_is); (case l25 => k_is); (case c25 => k_is); (case k25 => k_is)
    (case a26 => k_is); (case l26 => k_is); (case c26 => k_is); (case k26 => k_is)
    (case a27 => k_is); (case l27 => k_is); (case c27 => k_is); (case k27 => k_is)
    (case a28 => k_is); (case l28 => k_is); (case c28 => k_is); (case k28 => k_is)
    (case a29 => k_is); (case l29 => k_is); (case c29 => k_is); (case k29 => k_is)
    (case a30 => k_is); (case l30 => k_is); (case c30 => k_is); (case k30 => k_is)
    (case a31 => k_is); (case l31 => k_is); (case c31 => k_is); (case k31 => k_is)
    (case a32 => k_is); (case l32 => k_is); (case c32 => k_is); (case k32 => k_is)
    (case a33 => k_is); (case l33 => k_is); (case c33 => k_is); (case k33 => k_is)
    (case g1 => k_is); (case g2 => k_is); (case g3 => k_is); (case g4 => k_is); (case g5 => k_is); (case g6 => k_is)
    (case z1 => k_is); (case z2 => k_is); (case z3 => k_is); (case z4 => k_is); (case z5 => k_is); (case z6 => k_is); (case z7 => k_is); (case z8 => k_is); (case z9 => k_is); (case z10 => k_is); (case z11 => k_is)
    (case y1 => k_is); (case y2 => k_is); (case y3 => k_is)
    (case kS => kernel_rfl)
    (case kT => kernel_rfl)
    (case hSc => k_is)
    (case hSp => first | exact D.scs_mk (by decide +kernel) (by decide +kernel) (by decide +kernel) (by decide +kernel) | exact ⟨rfl, _, _, rfl, by decide, .cons (D.rel_str (by decide +kernel)) (.cons (D.rel_str (by decide +kernel)) (.cons (D.rel_str (by decide +kernel)) (.cons (D.rel_str (by decide +kernel)) .nil)))⟩ | (unfold D.ScObj; trace_state; fail))
