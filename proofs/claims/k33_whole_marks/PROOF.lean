import PyProof.Rows.All
import Wide.All
import OpenK.AllK
import Wide.FinOn
import Lean
import PyProof.EqAt
import PyProof.EqKinds
import PyProof.TupleCall
import PyProof.ZipIter
import PyProof.Draws
import PyProof.StrOps2
import KE.KLcPair
import KE.KDictLaws
import KE.KSortTup
import KE.KDictList
import PyProof.ListMulRoad
import PyProof.EnumMake
import PyProof.EnumFor
import PySem.Challenge.RW_gloss_k33_whole_marks

set_option Elab.async false
set_option linter.all false
set_option maxRecDepth 100000
set_option genSizeOf false
set_option genSizeOfSpec false
namespace L2
open PySem PySem.Spec PyProof.Rows
abbrev Key := Sum Int Str
def keyIs : Key → Value → Bool
  | .inl k, v => Value.isInt k v
  | .inr x, v => Value.isStrOf x v
def keyH (w : World) : Key → Int
  | .inl k => hashInt k
  | .inr x => hashStr w x
theorem keyIs_shape : ∀ {k : Key} {v : Value}, keyIs k v = true → (∃ i t, k = Sum.inl i ∧ v = Value.int i t) ∨ (∃ x t, k = Sum.inr x ∧ v = Value.str x t)
  | .inl i, v, h => by
    obtain ⟨t, e⟩ := Value.isInt_shape (k := i) (v := v) h
    exact .inl ⟨i, t, rfl, e⟩
  | .inr x, v, h => by
    obtain ⟨t, e⟩ := Value.isStrOf_shape (x := x) (v := v) h
    exact .inr ⟨x, t, rfl, e⟩
theorem keyIs_int (i : Int) (t : Tok) : keyIs (.inl i) (.int i t) = true := by simp [keyIs, Value.isInt]
theorem keyIs_str (x : Str) (t : Tok) : keyIs (.inr x) (.str x t) = true := by simp [keyIs, Value.isStrOf]
theorem key_ll (a b : Int) : decide ((Sum.inl a : Key) = Sum.inl b) = (a == b) := by
  by_cases e : a = b
  · subst e; simp
  · have h : ¬ (Sum.inl a : Key) = Sum.inl b := fun q => e (Sum.inl.inj q)
    rw [decide_eq_false h]
    exact (beq_eq_false_iff_ne.mpr e).symm
theorem key_rr (a b : Str) : decide ((Sum.inr a : Key) = Sum.inr b) = decide (a = b) := by
  by_cases e : a = b
  · subst e; simp
  · have h : ¬ (Sum.inr a : Key) = Sum.inr b := fun q => e (Sum.inr.inj q)
    rw [decide_eq_false h, decide_eq_false e]
theorem key_lr (a : Int) (b : Str) : decide ((Sum.inl a : Key) = Sum.inr b) = false := decide_eq_false (fun q => nomatch q)
theorem key_rl (a : Str) (b : Int) : decide ((Sum.inr a : Key) = Sum.inl b) = false := decide_eq_false (fun q => nomatch q)
def mixKind (prog : Program) (w : World) : PySem.KeyKind prog w Key where
  is := keyIs
  hash := keyH w
  inj := fun v a b ha hb => by
    rcases keyIs_shape ha with ⟨i, t, rfl, rfl⟩ | ⟨x, t, rfl, rfl⟩
    · rcases keyIs_shape hb with ⟨j, u, rfl, e⟩ | ⟨y, u, rfl, e⟩
      · injection e with e1 _; rw [e1]
      · exact nomatch e
    · rcases keyIs_shape hb with ⟨j, u, rfl, e⟩ | ⟨y, u, rfl, e⟩
      · exact nomatch e
      · injection e with e1 _; rw [e1]
  byValue := fun k v h => by
    rcases keyIs_shape h with ⟨i, t, rfl, rfl⟩ | ⟨x, t, rfl, rfl⟩ <;> rfl
  pyHash := fun hv h => by
    rcases keyIs_shape hv with ⟨i, t, rfl, rfl⟩ | ⟨x, t, rfl, rfl⟩
    · exact wpAny_pyHash_int h
    · exact wpAny_pyHash_str h
  eqBool := fun hu hv h => by
    rcases keyIs_shape hu with ⟨i, t, rfl, rfl⟩ | ⟨x, t, rfl, rfl⟩
    · rcases keyIs_shape hv with ⟨j, u, rfl, rfl⟩ | ⟨y, u, rfl, rfl⟩
      · rw [key_ll] at h; exact wpAny_eqBool_int h
      · rw [key_lr] at h; exact SeqAt.EqAt.int_str i t y u _ _ _ _ h
    · rcases keyIs_shape hv with ⟨j, u, rfl, rfl⟩ | ⟨y, u, rfl, rfl⟩
      · rw [key_rl] at h; exact SeqAt.EqAt.str_int x t j u _ _ _ _ h
      · rw [key_rr] at h; exact wpAny_eqBool_str h
  «strs» := fun k x t v h => by
    rcases keyIs_shape h with ⟨i, u, rfl, e⟩ | ⟨y, u, rfl, e⟩
    · exact nomatch e
    · injection e with e1 _
      subst e1
      cases v <;> rfl
theorem mixKind_int (prog : Program) (w : World) (i : Int) (t : Tok) : (mixKind prog w).is (.inl i) (.int i t) = true := keyIs_int i t
theorem mixKind_str (prog : Program) (w : World) (x : Str) (t : Tok) : (mixKind prog w).is (.inr x) (.str x t) = true := keyIs_str x t
end L2
namespace L2
open PySem PySem.Spec PyProof.Rows
inductive V where
  | non | bl (b : Bool) | int (i : Int) | str (x : Str) | byt (b : Array UInt8) | flt (b : UInt64) | ref (a : Addr) | ty (n : String)
  deriving DecidableEq
def RelV : V → Value → Prop
  | .non, u => u = Value.none
  | .bl b, u => u = Value.bool b
  | .int i, u => ∃ t, u = Value.int i t
  | .str x, u => ∃ t, u = Value.str x t
  | .byt b, u => ∃ t, u = Value.bytes b t
  | .flt b, u => ∃ t, u = Value.float b t
  | .ref a, u => u = Value.ref a
  | .ty n, u => u = Value.type n
abbrev Vals : List V → List Value → Prop := Paired RelV
theorem Vals.length {xs : List V} {us : List Value} (r : Vals xs us) : xs.length = us.length := Paired.length r
theorem Vals.get : ∀ {xs : List V} {us : List Value} {i : Nat} {x : V}, Vals xs us → xs[i]? = some x → ∃ u, us[i]? = some u ∧ RelV x u
  | _, _, _, _, .nil, e => by simp at e
  | _, _, 0, _, .cons r _, e => by simp at e; subst e; exact ⟨_, rfl, r⟩
  | _, _, i + 1, x, .cons _ t, e => by
    obtain ⟨u, h1, h2⟩ := Vals.get (i := i) (x := x) t (by simpa using e)
    exact ⟨u, by simpa using h1, h2⟩
theorem Vals.set {x : V} {u : Value} (r : RelV x u) : ∀ {xs : List V} {us : List Value} (i : Nat), Vals xs us → Vals (xs.set i x) (us.set i u)
  | _, _, _, .nil => .nil
  | _, _, 0, .cons _ t => .cons r t
  | _, _, i + 1, .cons q t => .cons q (Vals.set r i t)
theorem Vals.append : ∀ {xs ys : List V} {us ws : List Value}, Vals xs us → Vals ys ws → Vals (xs ++ ys) (us ++ ws)
  | _, _, _, _, .nil, s => s
  | _, _, _, _, .cons r t, s => .cons r (Vals.append t s)
theorem Vals.take : ∀ {xs : List V} {us : List Value} (n : Nat), Vals xs us → Vals (xs.take n) (us.take n)
  | _, _, 0, _ => .nil
  | _, _, _ + 1, .nil => .nil
  | _, _, n + 1, .cons r t => .cons r (Vals.take n t)
theorem Vals.drop : ∀ {xs : List V} {us : List Value} (n : Nat), Vals xs us → Vals (xs.drop n) (us.drop n)
  | _, _, 0, r => r
  | _, _, _ + 1, .nil => .nil
  | _, _, n + 1, .cons _ t => Vals.drop n t
theorem Vals.none_of : ∀ {xs : List V} {us : List Value} {i : Nat}, Vals xs us → xs[i]? = none → us[i]? = none := fun {xs us i} r e => by
  have h1 := r.length
  have h2 : xs.length ≤ i := List.getElem?_eq_none_iff.mp e
  exact List.getElem?_eq_none_iff.mpr (by omega)
def RelO : Option V → Option Value → Prop
  | some v, some u => RelV v u
  | none, none => True
  | _, _ => False
def KV {κ : Type} : List (κ × V) → List (κ × Value) → Prop := Paired fun (p : κ × V) (q : κ × Value) => p.1 = q.1 ∧ RelV p.2 q.2
def kV : Key → V
  | .inl i => .int i
  | .inr x => .str x
inductive HO where
  | lst (xs : List V)
  | tup (xs : List V)
  | dK (kvs : List (Key × V)) | dT (kvs : List (List Key × V))
  | set (S : Int → Bool) (n : Nat)
  | ins (C dx : Addr) (fs : List (Str × V))
  | own (x : Addr)
  | xd (fs : List (Str × V))
  | met (f x : Addr)
  | rng (lo hi : Int)
  | frz (o : Obj) (u : HO)
  | tbl (ps : Array Value)
  | ext (φ : Heap → Prop)
abbrev Hp := Addr → Option HO
def upd (H : Hp) (a : Addr) (o : HO) : Hp := fun b => if b = a then some o else H b
theorem upd_same {H : Hp} {a : Addr} {o : HO} : upd H a o a = some o := by unfold upd; rw [if_pos rfl]
theorem upd_ne {H : Hp} {a b : Addr} {o : HO} (h : b ≠ a) : upd H a o b = H b := by unfold upd; rw [if_neg h]
theorem ne_of {H : Hp} {a b : Addr} {o u : HO} (h : H a = some o) (h' : H b = some u) (d : o ≠ u) : a ≠ b := by
  intro e; subst e; rw [h] at h'; exact d (Option.some.inj h')
theorem ne_of_none {H : Hp} {a b : Addr} {o : HO} (h : H a = some o) (h' : H b = none) : a ≠ b := by
  intro e; subst e; rw [h] at h'; cases h'
section
variable (P : Program) (w : World)
def ObjOk (H : Hp) (h : Heap) (a : Addr) : HO → Prop
  | .lst xs => xs.length ≤ sizeLine ∧ ∃ (its : List Value) (n : Nat), Vals xs its ∧ h.get? a = some { cls := .type "list", data := .seq its.toArray n }
  | .tup xs => xs.length ≤ sizeLine ∧ ∃ its : List Value, Vals xs its ∧ IsTup h a its.toArray
  | .dK kvs => kvs.length ≤ sizeLine ∧ (a == sysModules) = false ∧ ∃ vs, KV kvs vs ∧ h.DictOf (mixKind P w) a vs
  | .dT kvs => kvs.length ≤ sizeLine ∧ (a == sysModules) = false ∧ ∃ xs : List (List Key × Addr × Value),
      Paired (fun (p : List Key × V) (q : List Key × Addr × Value) => p.1 = q.1 ∧ H q.2.1 = some (.tup (p.1.map kV)) ∧ RelV p.2 q.2.2) kvs xs ∧
      ∃ o es ep, h.get? a = some o ∧ o.ExactDict ∧ o.data = .dict es ep ∧ es.toList = xs.map (entryOfKey (tupleKind (mixKind P w))) ∧ (xs.map (·.1)).Nodup
  | .set S n => h.SetOf (intKind P w) a S n
  | .ins C dx fs => H dx = some (.own a) ∧ fs.length ≤ 1000 ∧ dx ≠ a ∧ h.get? a = some (PySem.W.instObj C dx) ∧
      ∃ mA, h.Ns1 dx mA ∧ (∀ f, RelO (fs.lookup f) (mA f)) ∧ PySem.Within mA (fs.map (·.1))
  | .own _ => ∃ o, h.get? a = some o
  | .xd fs => ∃ mA, h.Ns1 a mA ∧ ∀ f, RelO (fs.lookup f) (mA f)
  | .rng lo hi => ∃ t u v, h.get? a = some { cls := .type "range", data := .fields #[.int lo t, .int hi u, .int 1 v] }
  | .frz o u => h.get? a = some o ∧ ObjOk H h a u
  | .tbl ps => h.get? a = some { cls := .none, data := .fields ps }
  | .met f x => h.get? a = some (PySem.W.methodObj (.ref f) (.ref x))
  | .ext φ => φ h ∧ (∃ o, h.get? a = some o) ∧ ∀ h1 h2 : Heap, φ h1 → (∀ o, h1.get? a = some o → h2.get? a = some o) → φ h2
def HOk (H : Hp) (h : Heap) : Prop := ∀ a o, H a = some o → ObjOk P w H h a o
end
section
variable {P : Program} {w : World} {H H' : Hp} {h h' : Heap} {a : Addr} {o : HO}
theorem ObjOk.lt (x : ObjOk P w H h a o) : a < h.objs.size := by
  cases o with
  | lst xs => obtain ⟨_, _, _, _, e⟩ := x; exact Heap.lt_size e
  | tup xs => obtain ⟨_, _, _, p⟩ := x; exact p.lt
  | dK kvs => obtain ⟨_, _, _, _, o, _, _, e, _⟩ := x; exact Heap.lt_size e
  | dT kvs => obtain ⟨_, _, _, _, o, _, _, e, _⟩ := x; exact Heap.lt_size e
  | set S n => obtain ⟨o, _, _, _, e, _⟩ := x; exact Heap.lt_size e
  | ins C dx fs => obtain ⟨_, _, _, e, _⟩ := x; exact Heap.lt_size e
  | own y => obtain ⟨_, e⟩ := x; exact Heap.lt_size e
  | xd fs => obtain ⟨_, ⟨_, _, _, e, _⟩, _⟩ := x; exact Heap.lt_size e
  | rng lo hi => obtain ⟨_, _, _, e⟩ := x; exact Heap.lt_size e
  | frz ob u => obtain ⟨e, _⟩ := x; exact Heap.lt_size e
  | tbl ps => exact Heap.lt_size (show h.get? a = some _ from x)
  | met f y => exact Heap.lt_size (show h.get? a = some _ from x)
  | ext φ => obtain ⟨_, ⟨_, e⟩, _⟩ := x; exact Heap.lt_size e
theorem Paired.mapP {α β : Type} {F G : α → β → Prop} : ∀ {l₁ : List α} {l₂ : List β}, Paired F l₁ l₂ → (∀ a b, F a b → G a b) → Paired G l₁ l₂
  | _, _, .nil, _ => .nil
  | _, _, .cons r t, f => .cons (f _ _ r) (Paired.mapP t f)
theorem ObjOk.stay (x : ObjOk P w H h a o) (k : ∀ b u, (b = a ∨ H b = some (.own a)) → h.get? b = some u → h'.get? b = some u)
    (ho : ∀ b, H b = some (.own a) → H' b = some (.own a)) (ht : ∀ b xs, H b = some (.tup xs) → H' b = some (.tup xs)) : ObjOk P w H' h' a o := by
  induction o with
  | lst xs => obtain ⟨z, its, n, r, e⟩ := x; exact ⟨z, its, n, r, k _ _ (.inl rfl) e⟩
  | tup xs => obtain ⟨z, its, r, ob, e, c⟩ := x; exact ⟨z, its, r, ob, k _ _ (.inl rfl) e, c⟩
  | dK kvs => obtain ⟨z, y, vs, r, ob, es, ep, e, c⟩ := x; exact ⟨z, y, vs, r, ob, es, ep, k _ _ (.inl rfl) e, c⟩
  | dT kvs =>
    obtain ⟨z, y, xs, r, ob, es, ep, e, c⟩ := x
    exact ⟨z, y, xs, Paired.mapP r fun p q z => ⟨z.1, ht _ _ z.2.1, z.2.2⟩, ob, es, ep, k _ _ (.inl rfl) e, c⟩
  | set S n => obtain ⟨ob, es, ep, t, e, c⟩ := x; exact ⟨ob, es, ep, t, k _ _ (.inl rfl) e, c⟩
  | ins C dx fs =>
    obtain ⟨d, z, ne, e, mA, ⟨od, es, ep, e2, c⟩, r⟩ := x
    exact ⟨ho _ d, z, ne, k _ _ (.inl rfl) e, mA, ⟨od, es, ep, k _ _ (.inr d) e2, c⟩, r⟩
  | own y => obtain ⟨ob, e⟩ := x; exact ⟨ob, k _ _ (.inl rfl) e⟩
  | xd fs => obtain ⟨mA, ⟨od, es, ep, e, c⟩, r⟩ := x; exact ⟨mA, ⟨od, es, ep, k _ _ (.inl rfl) e, c⟩, r⟩
  | rng lo hi => obtain ⟨t, u, v, e⟩ := x; exact ⟨t, u, v, k _ _ (.inl rfl) e⟩
  | frz ob u ih => obtain ⟨e, q⟩ := x; exact ⟨k _ _ (.inl rfl) e, ih q⟩
  | tbl ps =>
    have e : h.get? a = some { cls := .none, data := .fields ps } := x
    show h'.get? a = some { cls := .none, data := .fields ps }
    exact k a _ (.inl rfl) e
  | met f y =>
    have e : h.get? a = some (PySem.W.methodObj (.ref f) (.ref y)) := x
    show h'.get? a = some (PySem.W.methodObj (.ref f) (.ref y))
    exact k a _ (.inl rfl) e
  | ext φ => obtain ⟨p, ⟨o, e⟩, st⟩ := x; exact ⟨st _ _ p fun o q => k _ _ (.inl rfl) q, ⟨o, k _ _ (.inl rfl) e⟩, st⟩
theorem HOk.lt (x : HOk P w H h) (e : H a = some o) : a < h.objs.size := (x a o e).lt
theorem HOk.fresh (x : HOk P w H h) (e : h.objs.size ≤ a) : H a = none := by
  cases q : H a with
  | none => rfl
  | some u => exact absurd (Nat.lt_of_lt_of_le (x.lt q) e) (Nat.lt_irrefl _)
theorem HOk.kept (x : HOk P w H h) (k : ∀ b u, h.get? b = some u → h'.get? b = some u) : HOk P w H h' := fun a o e =>
  (x a o e).stay (fun b u _ q => k b u q) (fun _ q => q) fun _ _ q => q
theorem HOk.laid (x : HOk P w H h) (k : ∀ b u, h.get? b = some u → h'.get? b = some u) (hp : h.objs.size ≤ a) (new : ObjOk P w (upd H a o) h' a o) : HOk P w (upd H a o) h' := fun b u e => by
  have hn := x.fresh hp
  by_cases hb : b = a
  · subst hb; rw [upd_same] at e; cases e; exact new
  · rw [upd_ne hb] at e
    exact (x b u e).stay (fun c v _ q => k c v q) (fun c q => by rw [upd_ne (ne_of_none q hn)]; exact q) fun c xs q => by rw [upd_ne (ne_of_none q hn)]; exact q
end
def Rd (H : Hp) (a : Addr) (u : HO) : Prop := H a = some u ∨ ∃ o, H a = some (.frz o u)
theorem Rd.of {H : Hp} {a : Addr} {u : HO} (h : H a = some u) : Rd H a u := .inl h
theorem Rd.ok {P : Program} {w : World} {H : Hp} {h : Heap} {a : Addr} {u : HO} (r : Rd H a u) (x : HOk P w H h) : ObjOk P w H h a u := by
  rcases r with r | ⟨o, r⟩
  · exact x a u r
  · obtain ⟨_, q⟩ := x a _ r
    exact q
def Mut : Option HO → Prop
  | some (.lst _) => True
  | some (.dK _) => True
  | some (.dT _) => True
  | some (.set _ _) => True
  | some (.ins _ _ _) => True
  | some (.ext _) => True
  | _ => False
section
variable {P : Program} {w : World} {H : Hp} {h h' : Heap} {x e : Addr} {o' : HO}
theorem HOk.write (ok : HOk P w H h) (mu : Mut (H x)) (he : e = x ∨ H e = some (.own x)) (k : ∀ b u, b ≠ e → h.get? b = some u → h'.get? b = some u) (heo : ∃ u, h'.get? e = some u)
    (new : ObjOk P w (upd H x o') h' x o') : HOk P w (upd H x o') h' := fun b u q => by
  have nown : ∀ c y, H c = some (.own y) → c ≠ x := fun c y r z => by subst z; rw [r] at mu; exact mu
  have ntup : ∀ c xs, H c = some (.tup xs) → c ≠ x := fun c xs r z => by subst z; rw [r] at mu; exact mu
  by_cases hb : b = x
  · subst hb; rw [upd_same] at q; cases q; exact new
  · rw [upd_ne hb] at q
    by_cases hbe : b = e
    · have q' : H b = some (.own x) := by
        rcases he with z | z
        · exact absurd (hbe.trans z) hb
        · rw [hbe]; exact z
      rw [q] at q'; cases q'
      obtain ⟨v, hv⟩ := heo
      exact ⟨v, by rw [hbe]; exact hv⟩
    · refine (ok b u q).stay (fun c v hc r => k c v ?_ r) (fun c r => by rw [upd_ne (nown c b r)]; exact r) fun c xs r => by rw [upd_ne (ntup c xs r)]; exact r
      rcases hc with rfl | hc
      · exact hbe
      · rintro rfl
        rcases he with z | z
        · exact nown c b hc z
        · rw [hc] at z; cases z; exact hb rfl
end
structure Un (fs ex : List Addr) (H H' : Hp) (h h' : Heap) : Prop where
  keep : ∀ b o, h.get? b = some o → H b = none → b ∉ fs → b ∉ ex → h'.get? b = some o
  slot : ∀ b o, h.get? b = some o → H b = none → b ∈ fs → b ∉ ex → ∃ sl, h'.get? b = some { o with slots := sl }
  free : ∀ b o, h.get? b = some o → H b = none → b ∉ ex → H' b = none
  there : ∀ b o, h.get? b = some o → b ∉ ex → ∃ o', h'.get? b = some o'
  tups : ∀ b xs, H b = some (.tup xs) → H' b = some (.tup xs)
  frzs : ∀ b o u, H b = some (.frz o u) → H' b = some (.frz o u)
  tbls : ∀ b ps, H b = some (.tbl ps) → ∃ more, H' b = some (.tbl (ps ++ more))
section
variable {fs fs' ex ex' : List Addr} {H H1 H2 : Hp} {h h1 h2 h' : Heap} {a x e : Addr} {o : HO}
theorem Un.any (u : Un fs ex H H1 h h1) {b : Addr} {ob : Obj} (q : h.get? b = some ob) (n : H b = none) (hx : b ∉ ex) : ∃ sl, h1.get? b = some { ob with slots := sl } := by
  by_cases hb : b ∈ fs
  · exact u.slot b ob q n hb hx
  · exact ⟨ob.slots, u.keep b ob q n hb hx⟩
theorem Un.trans (a : Un fs ex H H1 h h1) (b : Un fs ex H1 H2 h1 h2) : Un fs ex H H2 h h2 where
  keep := fun c ob q n hc hx => b.keep c ob (a.keep c ob q n hc hx) (a.free c ob q n hx) hc hx
  slot := fun c ob q n hc hx => by
    obtain ⟨sl, e1⟩ := a.slot c ob q n hc hx
    obtain ⟨sl', e2⟩ := b.slot c _ e1 (a.free c ob q n hx) hc hx
    exact ⟨sl', e2⟩
  free := fun c ob q n hx => by
    obtain ⟨o', e1⟩ := a.there c ob q hx
    exact b.free c o' e1 (a.free c ob q n hx) hx
  there := fun c ob q hx => by
    obtain ⟨o', e1⟩ := a.there c ob q hx
    exact b.there c o' e1 hx
  tups := fun c xs q => b.tups c xs (a.tups c xs q)
  frzs := fun c ob xs q => b.frzs c ob xs (a.frzs c ob xs q)
  tbls := fun c ps q => by
    obtain ⟨m1, e1⟩ := a.tbls c ps q
    obtain ⟨m2, e2⟩ := b.tbls c _ e1
    exact ⟨m1 ++ m2, by rw [e2, Array.append_assoc]⟩
theorem Un.kept (k : ∀ b u, h.get? b = some u → h'.get? b = some u) : Un fs ex H H h h' :=
  ⟨fun b ob q _ _ _ => k b ob q, fun b ob q _ _ _ => ⟨ob.slots, k b ob q⟩, fun _ _ _ n _ => n, fun b ob q _ => ⟨ob, k b ob q⟩, fun _ _ q => q, fun _ _ _ q => q, fun _ ps q => ⟨#[], by rw [q]; simp⟩⟩
theorem Un.refl : Un fs ex H H h h := Un.kept fun _ _ q => q
theorem Un.laid (k : ∀ b u, h.get? b = some u → h'.get? b = some u) (hp : h.objs.size ≤ a) (hn : H a = none) : Un fs ex H (upd H a o) h h' where
  keep := fun b u q _ _ _ => k b u q
  slot := fun b u q _ _ _ => ⟨u.slots, k b u q⟩
  free := fun b u q n _ => by rw [upd_ne (Nat.ne_of_lt (Nat.lt_of_lt_of_le (Heap.lt_size q) hp))]; exact n
  there := fun b u q _ => ⟨u, k b u q⟩
  tups := fun b xs q => by rw [upd_ne (ne_of_none q hn)]; exact q
  frzs := fun b u xs q => by rw [upd_ne (ne_of_none q hn)]; exact q
  tbls := fun b ps q => ⟨#[], by rw [upd_ne (ne_of_none q hn), q]; simp⟩
theorem Un.write (mu : Mut (H x)) (he : e = x ∨ H e = some (.own x)) (k : ∀ b u, b ≠ e → h.get? b = some u → h'.get? b = some u) (heo : ∃ u, h'.get? e = some u) : Un fs ex H (upd H x o) h h' := by
  have hx : ∀ b, H b = none → b ≠ x := fun b n z => by subst z; rw [n] at mu; exact mu
  have hb : ∀ b, H b = none → b ≠ e := fun b n z => by
    subst z
    rcases he with r | r
    · exact hx b n r
    · rw [n] at r; cases r
  have hm : ∀ b u, H b = some u → ¬ Mut (some u) → b ≠ x := fun b u q nm z => by subst z; rw [q] at mu; exact nm mu
  refine ⟨fun b u q n _ _ => k b u (hb b n) q, fun b u q n _ _ => ⟨u.slots, k b u (hb b n) q⟩, fun b u q n _ => by rw [upd_ne (hx b n)]; exact n, fun b u q _ => ?_,
    fun b xs q => by rw [upd_ne (hm b _ q fun z => z)]; exact q, fun b u xs q => by rw [upd_ne (hm b _ q fun z => z)]; exact q, fun b ps q => ⟨#[], by rw [upd_ne (hm b _ q fun z => z), q]; simp⟩⟩
  by_cases hbe : b = e
  · subst hbe; exact heo
  · exact ⟨u, k b u hbe q⟩
theorem Un.mono (u : Un fs ex H H1 h h1) (hs : ∀ b ∈ fs, b ∈ fs') (hx : ∀ b ∈ ex, b ∈ ex') : Un fs' ex' H H1 h h1 :=
  ⟨fun b ob q n hb he => u.keep b ob q n (fun z => hb (hs b z)) fun z => he (hx b z), fun _ _ q n _ he => u.any q n fun z => he (hx _ z), fun b ob q n he => u.free b ob q n fun z => he (hx b z), fun b ob q he => u.there b ob q fun z => he (hx b z), u.tups, u.frzs, u.tbls⟩
end
def trk (h : Heap) (H : Hp) : List Addr := (List.range h.objs.size).filter fun a => (H a).isSome
def hidT (h : Heap) (H : Hp) : Heap := PySem.W.hideAll h (trk h H)
theorem hidT_size (h : Heap) (H : Hp) : (hidT h H).objs.size = h.objs.size := PySem.W.hideAll_size _ _
theorem hidT_get {h : Heap} {H : Hp} {b : Addr} {o : Obj} (e : h.get? b = some o) (n : H b = none) : (hidT h H).get? b = some o :=
  PySem.W.hideAll_get _ e fun hm => by
    have q : (H b).isSome = true := (List.mem_filter.mp hm).2
    rw [n] at q; simp at q
theorem of_hidT {h : Heap} {H : Hp} {b : Addr} {o : Obj} (e : (hidT h H).get? b = some o) : h.get? b = some o ∧ H b = none := by
  have e' : h.get? b = some o := PySem.W.of_hideAll (trk h H) e
  refine ⟨e', ?_⟩
  cases q : H b with
  | none => rfl
  | some x =>
    have hm : b ∈ trk h H := List.mem_filter.mpr ⟨List.mem_range.mpr (Heap.lt_size e'), by simp [q]⟩
    have z : (hidT h H).get? b = none := PySem.W.hideAll_none (trk h H) hm
    rw [z] at e; cases e
def allNews (g h : Heap) (L : Addr) : List (Addr × Obj) := (List.range h.objs.size).filterMap fun a => if a = L ∨ (g.get? a).isSome = true then none else (h.get? a).map fun o => (a, o)
def rest (g h : Heap) (L d : Addr) : List (Addr × Obj) := (allNews g h L).filter fun p => decide (p.1 ≠ d)
end L2
namespace L2
open PySem PySem.Spec PyProof.Rows
structure Mod (K : PySem.W.Frag) (mg : Str → Option Value) (base : Heap) : Prop where
  kin : K.In base
  glob : base.Ns mainGlobals mg
  blt : ∃ mb, base.Ns builtinsNs mb ∧ ∀ x : Str, x ≠ "__name__" → mb x = bootBuiltins x
  nolimit : base.NoLimit
/-- the context: a def's body (or a comprehension's block) running. base: fixed through the whole law; s₀, H₀: the entry; outer: the frames whose slots others may change (a def's callers); stack: all frames that run;
   ex: iterators that were made ahead of the entry and are walked here (a comprehension's); fn: the names whose cells were made at the entry (a def: all; a comprehension's block: its own); calm: not within an except suite; pn: pins that every state bears; xe: what is wanted of an exception that leaves the code -/
structure Cx where
  prog : Program
  w : World
  K : PySem.W.Frag
  mg : Str → Option Value
  base : Heap
  A : Around
  N : List Str
  s₀ : Shared
  H₀ : Hp
  env : Env
  outer : List Env
  stack : List Env
  ex : List Addr
  fn : Str → Bool
  calm : Bool
  pn : List (Addr × Obj)
  xe : Value → Shared → Prop
def frs (l : List Env) : List Addr := l.filterMap (·.frame)
abbrev Cx.fs (X : Cx) : List Addr := frs X.outer
def Vis (sc : Scope) (x : Str) : Prop := sc.names.lookup x = some .local ∨ sc.names.lookup x = some .cell ∨ sc.names.lookup x = some .free
def Loc (sc : Scope) (x : Str) : Prop := sc.names.lookup x = some .local ∨ sc.names.lookup x = some .cell
def Look (env : Env) (h : Heap) (m : Str → Option Value) (x : Str) (u : Value) : Prop :=
  (env.kindOf x = some .local ∧ m x = some u) ∨ ((env.kindOf x = some .cell ∨ env.kindOf x = some .free) ∧ ∃ c, env.cells.lookup x = some c ∧ h.IsCell c (some u))
structure Cx.Ok (X : Cx) : Prop where
  mod : Mod X.K X.mg X.base
  kind : X.env.scope.kind = .function
  glob : X.env.globals = mainGlobals
  blt : X.env.builtins = builtinsNs
  above : X.s₀.heap.objs.size ≤ X.env.locals
  inj : ∀ x y c, X.env.cells.lookup x = some c → X.env.cells.lookup y = some c → x = y
  has : ∀ x, (X.env.kindOf x = some .cell ∨ X.env.kindOf x = some .free) → ∃ c, X.env.cells.lookup x = some c
  cab : ∀ x c, X.fn x = true → X.env.cells.lookup x = some c → X.s₀.heap.objs.size ≤ c
  hd : X.calm = true → X.A.handled = none
  frames : X.A.frames = some X.stack
  stk : X.stack = X.outer ∨ (X.stack = X.env :: X.outer ∧ X.env.frame = some X.env.locals)
  exf : ∀ b ∈ X.ex, b ≠ X.env.locals ∧ ∀ x c, X.env.cells.lookup x = some c → c ≠ b
  bs : ∀ b o, X.base.get? b = some o → X.s₀.heap.get? b = some o ∧ X.H₀ b = none
  bsz : X.base.objs.size ≤ X.s₀.heap.objs.size
  noex : ∀ b o, X.base.get? b = some o → b ∉ X.ex
  exfs : ∀ b ∈ X.ex, b ∉ X.fs
  funs : X.s₀.heap.FunFrames X.base X.outer
  frf : ∀ b ∈ X.fs, X.H₀ b = none
structure Inv (X : Cx) (pins : List (Addr × Obj)) (σ : List (Option V)) (H : Hp) (s : Shared) : Prop where
  ok : X.Ok
  os : s.os = X.s₀.os
  bare : AllBare s.gens
  base : Un X.fs X.ex X.H₀ H X.s₀.heap s.heap
  loc : ∃ m, s.heap.Ns X.env.locals m ∧ ∀ (i : Nat) (x : Str) (v : V), X.N[i]? = some x → σ[i]? = some (some v) → Vis X.env.scope x → ∃ u, RelV v u ∧ Look X.env s.heap m x u
  cell : ∀ x c, X.env.cells.lookup x = some c → ∃ v, s.heap.IsCell c v
  free : H X.env.locals = none
  freeC : ∀ x c, X.env.cells.lookup x = some c → H c = none
  pin : ∀ p ∈ X.pn ++ pins, s.heap.get? p.1 = some p.2 ∧ H p.1 = none ∧ p.1 ≠ X.env.locals ∧ p.1 ∉ X.fs ∧ ∀ v, p.2.data ≠ .cell v
  hok : HOk X.prog X.w H s.heap
  len : σ.length = X.N.length
section
variable {X : Cx} {pins : List (Addr × Obj)} {σ : List (Option V)} {H H' : Hp} {s : Shared} {h' : Heap}
theorem Cx.Ok.nofr (ok : X.Ok) {b : Addr} {o : Obj} (e : X.base.get? b = some o) : b ∉ X.fs := fun hb => by
  have := (ok.funs.mem hb).1
  rw [e] at this; cases this
theorem Inv.bs (I : Inv X pins σ H s) : ∀ b o, X.base.get? b = some o → s.heap.get? b = some o ∧ H b = none := fun b o e =>
  ⟨I.base.keep b o (I.ok.bs b o e).1 (I.ok.bs b o e).2 (I.ok.nofr e) (I.ok.noex b o e), I.base.free b o (I.ok.bs b o e).1 (I.ok.bs b o e).2 (I.ok.noex b o e)⟩
theorem Inv.bk (I : Inv X pins σ H s) : ∀ b o, X.base.get? b = some o → s.heap.get? b = some o := fun b o e => (I.bs b o e).1
theorem Inv.mod (I : Inv X pins σ H s) : Mod X.K X.mg X.base := I.ok.mod
theorem Inv.kIn (I : Inv X pins σ H s) : X.K.In s.heap := I.ok.mod.kin.keeps I.bk
theorem Inv.nolimit (I : Inv X pins σ H s) : s.heap.NoLimit := I.ok.mod.nolimit.keeps I.bk
theorem Inv.fr (I : Inv X pins σ H s) : ∃ m, Fr X.base X.env.locals s.heap m :=
  let ⟨m, hn, _⟩ := I.loc
  ⟨m, hn, I.bk, Nat.le_trans I.ok.bsz I.ok.above⟩
theorem Inv.lt (I : Inv X pins σ H s) : X.env.locals < s.heap.objs.size := let ⟨_, hn, _⟩ := I.loc; hn.lt
theorem Inv.sz (I : Inv X pins σ H s) : X.s₀.heap.objs.size ≤ s.heap.objs.size := Nat.le_trans I.ok.above (Nat.le_of_lt I.lt)
theorem Inv.nofs (I : Inv X pins σ H s) {a : Addr} (h : s.heap.objs.size ≤ a) : a ∉ X.fs := fun hb => by
  obtain ⟨_, o, ho, _⟩ := I.ok.funs.mem hb
  exact absurd (Nat.lt_of_lt_of_le (Heap.lt_size ho) (Nat.le_trans I.sz h)) (Nat.lt_irrefl _)
theorem Inv.cne (I : Inv X pins σ H s) : ∀ x c, X.env.cells.lookup x = some c → c ≠ X.env.locals := fun x c e z => by
  obtain ⟨v, o, ho, hd⟩ := I.cell x c e
  obtain ⟨m, ⟨o', es, ep, ho', hd', _⟩, _⟩ := I.loc
  rw [z, ho'] at ho; cases ho; rw [hd'] at hd; cases hd
theorem Inv.funs (I : Inv X pins σ H s) : s.heap.FunFrames X.base X.outer := by
  have all : ∀ (l : List Env), (∀ b ∈ frs l, b ∈ X.fs) → X.s₀.heap.FunFrames X.base l → s.heap.FunFrames X.base l := by
    intro l
    induction l with
    | nil => intro _ _; trivial
    | cons env r ih =>
      intro hs hl
      obtain ⟨hk, ⟨L, o, hf, hn, ho, hd⟩, hr⟩ := hl
      have hL : L ∈ X.fs := hs L (by unfold frs; rw [List.filterMap_cons, hf]; exact List.mem_cons_self)
      obtain ⟨sl, e⟩ := I.base.slot L o ho (I.ok.frf L hL) hL fun z => I.ok.exfs L z hL
      exact ⟨hk, ⟨L, _, hf, hn, e, hd⟩, ih (fun b hb => hs b (by unfold frs; rw [List.filterMap_cons, hf]; exact List.mem_cons_of_mem _ hb)) hr⟩
  exact all X.outer (fun _ hb => hb) I.ok.funs
theorem Inv.stack (I : Inv X pins σ H s) : s.heap.FunFrames X.base X.stack := by
  rcases I.ok.stk with e | ⟨e, hf⟩
  · rw [e]; exact I.funs
  · rw [e]
    obtain ⟨m, hn, _⟩ := I.loc
    refine .cons (by rw [I.ok.kind]; decide) hf hn ?_ I.funs
    exact Heap.get?_none_of_le (Nat.le_trans I.ok.bsz I.ok.above)
theorem Inv.stkSub (I : Inv X pins σ H s) : ∀ b ∈ frs X.stack, b ∈ X.env.locals :: X.fs := fun b hb => by
  rcases I.ok.stk with e | ⟨e, hf⟩
  · rw [e] at hb; exact List.mem_cons_of_mem _ hb
  · rw [e] at hb
    unfold frs at hb
    rw [List.filterMap_cons, hf] at hb
    exact hb
theorem Inv.stkFree (I : Inv X pins σ H s) : ∀ b ∈ frs X.stack, H b = none := fun b hb => by
  rcases List.mem_cons.mp (I.stkSub b hb) with e | hb
  · rw [e]; exact I.free
  · obtain ⟨_, o, ho, _⟩ := I.ok.funs.mem hb
    exact I.base.free b o ho (I.ok.frf b hb) fun z => I.ok.exfs b z hb
theorem Inv.step {g' : Array GenState} {t' : Nat} {d' : Drawn} {ch : List Addr} (I : Inv X pins σ H s)
    (hch : ∀ b ∈ ch, (b ∈ X.ex ∨ X.s₀.heap.objs.size ≤ b) ∧ b ≠ X.env.locals ∧ (∀ x c, X.env.cells.lookup x = some c → c ≠ b) ∧ ∀ p ∈ X.pn ++ pins, p.1 ≠ b)
    (keep : ∀ b o, b ≠ X.env.locals → b ∉ X.fs → b ∉ ch → s.heap.get? b = some o → H b = none → h'.get? b = some o)
    (slot : ∀ b o, b ≠ X.env.locals → b ∈ X.fs → b ∉ ch → s.heap.get? b = some o → H b = none → ∃ sl, h'.get? b = some { o with slots := sl }) (free : ∀ b o, b ∉ ch → s.heap.get? b = some o → H b = none → H' b = none)
    (there : ∀ b o, b ∉ ch → s.heap.get? b = some o → ∃ o', h'.get? b = some o')
    (tups : ∀ b xs, H b = some (.tup xs) → H' b = some (.tup xs)) (frzs : ∀ b o u, H b = some (.frz o u) → H' b = some (.frz o u)) (tbls : ∀ b ps, H b = some (.tbl ps) → ∃ more, H' b = some (.tbl (ps ++ more)))
    (ns : ∀ m, s.heap.Ns X.env.locals m → h'.Ns X.env.locals m) (hok : HOk X.prog X.w H' h') (hg : AllBare g') :
    Inv X pins σ H' { s with heap := h', gens := g', drawn := d', toks := t' } := by
  have neL : ∀ b o, X.s₀.heap.get? b = some o → b ≠ X.env.locals := fun b o e => Nat.ne_of_lt (Nat.lt_of_lt_of_le (Heap.lt_size e) I.ok.above)
  have neC : ∀ b o, X.s₀.heap.get? b = some o → b ∉ X.ex → b ∉ ch := fun b o e hx hb => by
    rcases (hch b hb).1 with z | z
    · exact hx z
    · exact absurd (Nat.lt_of_lt_of_le (Heap.lt_size e) z) (Nat.lt_irrefl _)
  have cellK : ∀ x c, X.env.cells.lookup x = some c → ∀ v, s.heap.IsCell c v → h'.IsCell c v := fun x c e v ⟨o, ho, hd⟩ => by
    have nch : c ∉ ch := fun z => (hch c z).2.2.1 x c e rfl
    by_cases hc : c ∈ X.fs
    · obtain ⟨sl, q⟩ := slot c o (I.cne x c e) hc nch ho (I.freeC x c e)
      exact ⟨_, q, hd⟩
    · exact ⟨o, keep c o (I.cne x c e) hc nch ho (I.freeC x c e), hd⟩
  refine ⟨I.ok, I.os, hg, ⟨fun b o e n hb hx => ?_, fun b o e n hb hx => ?_, fun b o e n hx => ?_, fun b o e hx => ?_, fun b xs e => tups b xs (I.base.tups b xs e), fun b o xs e => frzs b o xs (I.base.frzs b o xs e), fun b ps e => ?_⟩, ?_, fun x c e => ?_, ?_, fun x c e => ?_, fun p hp => ?_, hok, I.len⟩
  · exact keep b o (neL b o e) hb (neC b o e hx) (I.base.keep b o e n hb hx) (I.base.free b o e n hx)
  · obtain ⟨sl, e1⟩ := I.base.slot b o e n hb hx
    obtain ⟨sl', e2⟩ := slot b _ (neL b o e) hb (neC b o e hx) e1 (I.base.free b o e n hx)
    exact ⟨sl', e2⟩
  · obtain ⟨o', e1⟩ := I.base.there b o e hx
    exact free b o' (neC b o e hx) e1 (I.base.free b o e n hx)
  · obtain ⟨o', e1⟩ := I.base.there b o e hx
    exact there b o' (neC b o e hx) e1
  · obtain ⟨m1, e1⟩ := I.base.tbls b ps e
    obtain ⟨m2, e2⟩ := tbls b _ e1
    exact ⟨m1 ++ m2, by rw [e2, Array.append_assoc]⟩
  · obtain ⟨m, hn, hl⟩ := I.loc
    refine ⟨m, ns m hn, fun i x v e1 e2 e3 => ?_⟩
    obtain ⟨u, r, l⟩ := hl i x v e1 e2 e3
    refine ⟨u, r, ?_⟩
    rcases l with l | ⟨k, c, e, z⟩
    · exact .inl l
    · exact .inr ⟨k, c, e, cellK x c e _ z⟩
  · obtain ⟨v, z⟩ := I.cell x c e
    exact ⟨v, cellK x c e v z⟩
  · obtain ⟨m, ⟨o, _, _, ho, _⟩, _⟩ := I.loc
    exact free _ o (fun z => (hch _ z).2.1 rfl) ho I.free
  · obtain ⟨v, o, ho, hd⟩ := I.cell x c e
    exact free c o (fun z => (hch c z).2.2.1 x c e rfl) ho (I.freeC x c e)
  · obtain ⟨e, n, ne, nf, d⟩ := I.pin p hp
    have nch : p.1 ∉ ch := fun z => (hch p.1 z).2.2.2 p hp rfl
    exact ⟨keep p.1 p.2 ne nf nch e n, free p.1 p.2 nch e n, ne, nf, d⟩
theorem Inv.un {t' : Nat} (I : Inv X pins σ H s) (u : Un X.fs [] H H' s.heap h') (hok : HOk X.prog X.w H' h') : Inv X pins σ H' { s with heap := h', toks := t' } := by
  obtain ⟨m, ⟨o, es, ep, ho, r⟩, _⟩ := id I.loc
  obtain ⟨sl, hL⟩ := u.any ho I.free (by simp)
  exact I.step (g' := s.gens) (d' := s.drawn) (ch := []) (fun _ z => nomatch z) (fun b o _ hb _ e n => u.keep b o e n hb (by simp)) (fun b o _ hb _ e n => u.slot b o e n hb (by simp)) (fun b o _ e n => u.free b o e n (by simp)) (fun b o _ e => u.there b o e (by simp)) u.tups u.frzs u.tbls (fun m' hm => by
    obtain ⟨o', es', ep', ho', r'⟩ := hm
    rw [ho] at ho'; cases ho'
    exact ⟨_, es', ep', hL, r'⟩) hok I.bare
theorem Inv.call {g' : Array GenState} {t' : Nat} {d' : Drawn} {ch : List Addr} (I : Inv X pins σ H s) (u : Un (frs X.stack) ch H H' s.heap h') (hok : HOk X.prog X.w H' h') (hg : AllBare g')
    (hch : ∀ b ∈ ch, (b ∈ X.ex ∨ X.s₀.heap.objs.size ≤ b) ∧ b ≠ X.env.locals ∧ (∀ x c, X.env.cells.lookup x = some c → c ≠ b) ∧ ∀ p ∈ X.pn ++ pins, p.1 ≠ b) :
    Inv X pins σ H' { s with heap := h', gens := g', drawn := d', toks := t' } := by
  obtain ⟨m, ⟨o, es, ep, ho, r⟩, _⟩ := id I.loc
  obtain ⟨sl, hL⟩ := u.any ho I.free fun z => (hch _ z).2.1 rfl
  exact I.step (ch := ch) hch (fun b o hL hb hc e n => u.keep b o e n (fun z => (List.mem_cons.mp (I.stkSub b z)).elim hL hb) hc) (fun b o _ _ hc e n => u.any e n hc) (fun b o hc e n => u.free b o e n hc) (fun b o hc e => u.there b o e hc) u.tups u.frzs u.tbls (fun m' hm => by
    obtain ⟨o', es', ep', ho', r'⟩ := hm
    rw [ho] at ho'; cases ho'
    exact ⟨_, es', ep', hL, r'⟩) hok hg
theorem Inv.turned {t' : Nat} {it : Addr} (I : Inv X pins σ H s) (k : ∀ b o, b ≠ it → s.heap.get? b = some o → h'.get? b = some o) (hn : H it = none) (hL : it ≠ X.env.locals)
    (h1 : it ∈ X.ex ∨ X.s₀.heap.objs.size ≤ it) (h2 : ∀ x c, X.env.cells.lookup x = some c → c ≠ it) (h3 : ∀ p ∈ X.pn ++ pins, p.1 ≠ it) : Inv X pins σ H { s with heap := h', toks := t' } := by
  have nit : ∀ b u, H b = some u → b ≠ it := fun b u e z => by rw [z, hn] at e; cases e
  refine I.step (g' := s.gens) (d' := s.drawn) (ch := [it]) (fun b hb => ?_) (fun b o _ _ hc e _ => k b o (fun z => hc (by simp [z])) e) (fun b o _ _ hc e _ => ⟨o.slots, k b o (fun z => hc (by simp [z])) e⟩) (fun _ _ _ _ n => n)
    (fun b o hc e => ⟨o, k b o (fun z => hc (by simp [z])) e⟩) (fun _ _ e => e) (fun _ _ _ e => e) (fun b ps e => ⟨#[], by rw [e]; simp⟩) (fun m hm => ?_) (fun b u e => ?_) I.bare
  · have e : b = it := by simpa using hb
    subst e
    exact ⟨h1, hL, h2, h3⟩
  · obtain ⟨o, es, ep, ho, r⟩ := hm
    exact ⟨o, es, ep, k _ o (Ne.symm hL) ho, r⟩
  · refine (I.hok b u e).stay (fun c v hc q => k c v ?_ q) (fun _ q => q) fun _ _ q => q
    rcases hc with z | z
    · rw [z]; exact nit b u e
    · exact nit c _ z
theorem Inv.tok (I : Inv X pins σ H s) (t : Nat) : Inv X pins σ H { s with toks := t } := I.un (h' := s.heap) (t' := t) Un.refl I.hok
theorem Inv.kept {t' : Nat} (I : Inv X pins σ H s) (k : ∀ b u, s.heap.get? b = some u → h'.get? b = some u) : Inv X pins σ H { s with heap := h', toks := t' } := I.un (Un.kept k) (I.hok.kept k)
theorem Inv.laid {a : Addr} {o : HO} {t' : Nat} (I : Inv X pins σ H s) (k : ∀ b u, s.heap.get? b = some u → h'.get? b = some u) (hp : s.heap.objs.size ≤ a) (new : ObjOk X.prog X.w (upd H a o) h' a o) :
    Inv X pins σ (upd H a o) { s with heap := h', toks := t' } := I.un (Un.laid k hp (I.hok.fresh hp)) (I.hok.laid k hp new)
theorem Inv.write {x e : Addr} {o : HO} {t' : Nat} (I : Inv X pins σ H s) (mu : Mut (H x)) (he : e = x ∨ H e = some (.own x)) (k : ∀ b u, b ≠ e → s.heap.get? b = some u → h'.get? b = some u) (heo : ∃ u, h'.get? e = some u)
    (new : ObjOk X.prog X.w (upd H x o) h' x o) : Inv X pins σ (upd H x o) { s with heap := h', toks := t' } := I.un (Un.write mu he k heo) (I.hok.write mu he k heo new)
theorem Inv.pins_of {pins' : List (Addr × Obj)} (I : Inv X pins σ H s) (h : ∀ p ∈ pins', s.heap.get? p.1 = some p.2 ∧ H p.1 = none ∧ p.1 ≠ X.env.locals ∧ p.1 ∉ X.fs ∧ ∀ v, p.2.data ≠ .cell v) : Inv X pins' σ H s :=
  ⟨I.ok, I.os, I.bare, I.base, I.loc, I.cell, I.free, I.freeC, fun p hp => (List.mem_append.mp hp).elim (fun z => I.pin p (List.mem_append_left _ z)) (h p), I.hok, I.len⟩
theorem nodup_ix {N : List Str} (hN : N.Nodup) {i j : Nat} {x : Str} (a : N[i]? = some x) (b : N[j]? = some x) : i = j := by
  obtain ⟨h1, e1⟩ := List.getElem?_eq_some_iff.mp a
  obtain ⟨h2, e2⟩ := List.getElem?_eq_some_iff.mp b
  exact (List.getElem_inj hN).mp (e1.trans e2.symm)
theorem store_ok2 {M : Model} {A : Around} {E : Value → Shared → Prop} {i : Nat} {x : Str} {v : V} {u : Value} {Q : Unit → Shared → Prop} (I : Inv X pins σ H s) (hN : X.N.Nodup) (hi : X.N[i]? = some x) (hx : Loc X.env.scope x) (r : RelV v u)
    (h : ∀ s', Inv X pins (σ.set i (some v)) H s' → (∃ a, Heap.SameBut a s.heap s'.heap ∧ (a = X.env.locals ∨ X.env.cells.lookup x = some a)) → Q () s') (hf : X.fn x = true ∨ X.env.scope.names.lookup x = some .local := by first | exact .inl rfl | exact .inr rfl | assumption) : wpAny M A (storeName X.env x u) Q E s := by
  obtain ⟨m, hn, hl⟩ := id I.loc
  have hcls : (X.env.scope.kind == .class || (X.env.scope.kind == .module && X.env.locals != X.env.globals)) = false := by rw [I.ok.kind]; rfl
  have hiσ : i < σ.length := by rw [I.len]; exact (List.getElem?_eq_some_iff.mp hi).1
  have cne := I.cne
  have tracked : ∀ {a : Addr} {h' : Heap}, (∃ o, s.heap.get? a = some o ∧ H a = none) → Heap.SameBut a s.heap h' → HOk X.prog X.w H h' := fun {a h'} ha hs b ob e => by
    obtain ⟨_, _, hfree⟩ := ha
    refine (I.hok b ob e).stay (fun c w' hc q => (hs.2 c ?_).trans q) (fun _ q => q) fun _ _ q => q
    rintro rfl
    rcases hc with rfl | hc
    · rw [hfree] at e; cases e
    · rw [hfree] at hc; cases hc
  rcases hx with hk | hk
  · refine wpAny_storeName_local hk hn (fun h' hn' hs => ?_) hcls
    obtain ⟨oL, _, _, hoL, _⟩ := id hn
    refine h _ ⟨I.ok, I.os, I.bare, ⟨fun b o e n hb hx => ?_, fun b o e n hb hx => ?_, I.base.free, fun b o e hx => ?_, I.base.tups, I.base.frzs, I.base.tbls⟩, ⟨_, hn', fun j y v' e1 e2 e3 => ?_⟩, fun y c e => ?_, I.free, I.freeC, fun p hp => ?_, tracked ⟨oL, hoL, I.free⟩ hs, by simpa using I.len⟩ ⟨_, hs, .inl rfl⟩
    · exact (hs.2 b (Nat.ne_of_lt (Nat.lt_of_lt_of_le (Heap.lt_size e) I.ok.above))).trans (I.base.keep b o e n hb hx)
    · obtain ⟨sl, e1⟩ := I.base.slot b o e n hb hx
      exact ⟨sl, (hs.2 b (Nat.ne_of_lt (Nat.lt_of_lt_of_le (Heap.lt_size e) I.ok.above))).trans e1⟩
    · obtain ⟨o', e1⟩ := I.base.there b o e hx
      exact ⟨o', (hs.2 b (Nat.ne_of_lt (Nat.lt_of_lt_of_le (Heap.lt_size e) I.ok.above))).trans e1⟩
    · by_cases hj : j = i
      · subst hj
        rw [hi] at e1; cases e1
        rw [List.getElem?_set_self hiσ] at e2
        cases e2
        exact ⟨u, r, .inl ⟨hk, by simp⟩⟩
      · rw [List.getElem?_set_ne (Ne.symm hj)] at e2
        obtain ⟨u', r', q⟩ := hl j y v' e1 e2 e3
        refine ⟨u', r', ?_⟩
        rcases q with ⟨k, e⟩ | ⟨k, c, e, z⟩
        · refine .inl ⟨k, ?_⟩
          have : y ≠ x := fun e => hj (nodup_ix hN e1 (e ▸ hi))
          simp [this, e]
        · exact .inr ⟨k, c, e, z.sameBut hs (cne y c e)⟩
    · obtain ⟨w', z⟩ := I.cell y c e
      exact ⟨w', z.sameBut hs (cne y c e)⟩
    · obtain ⟨e, n, ne, nf, d⟩ := I.pin p hp
      exact ⟨(hs.2 p.1 ne).trans e, n, ne, nf, d⟩
  · have hfn : X.fn x = true := by
      rcases hf with z | z
      · exact z
      · rw [z] at hk; cases hk
    obtain ⟨c, hc⟩ := I.ok.has x (.inl hk)
    obtain ⟨w', z⟩ := I.cell x c hc
    refine wpAny_storeName_cell I.ok.kind hk hc z (fun h' hc' hs => ?_)
    obtain ⟨oc, hoc, hocd⟩ := id z
    refine h { s with heap := h' } ⟨I.ok, I.os, I.bare, ⟨fun b o e n hb hx => ?_, fun b o e n hb hx => ?_, I.base.free, fun b o e hx => ?_, I.base.tups, I.base.frzs, I.base.tbls⟩, ⟨m, hn.sameBut hs (Ne.symm (cne x c hc)), fun j y v' e1 e2 e3 => ?_⟩, fun y c' e => ?_, I.free, I.freeC, fun p hp => ?_, tracked ⟨oc, hoc, I.freeC x c hc⟩ hs, by simpa using I.len⟩ ⟨c, hs, .inr hc⟩
    · exact (hs.2 b (Nat.ne_of_lt (Nat.lt_of_lt_of_le (Heap.lt_size e) (I.ok.cab x c hfn hc)))).trans (I.base.keep b o e n hb hx)
    · obtain ⟨sl, e1⟩ := I.base.slot b o e n hb hx
      exact ⟨sl, (hs.2 b (Nat.ne_of_lt (Nat.lt_of_lt_of_le (Heap.lt_size e) (I.ok.cab x c hfn hc)))).trans e1⟩
    · obtain ⟨o', e1⟩ := I.base.there b o e hx
      exact ⟨o', (hs.2 b (Nat.ne_of_lt (Nat.lt_of_lt_of_le (Heap.lt_size e) (I.ok.cab x c hfn hc)))).trans e1⟩
    · by_cases hj : j = i
      · subst hj
        rw [hi] at e1; cases e1
        rw [List.getElem?_set_self hiσ] at e2
        cases e2
        exact ⟨u, r, .inr ⟨.inl hk, c, hc, hc'⟩⟩
      · rw [List.getElem?_set_ne (Ne.symm hj)] at e2
        obtain ⟨u', r', q⟩ := hl j y v' e1 e2 e3
        refine ⟨u', r', ?_⟩
        rcases q with q | ⟨k, c', e, z'⟩
        · exact .inl q
        · refine .inr ⟨k, c', e, z'.sameBut hs ?_⟩
          rintro rfl
          exact hj (nodup_ix hN e1 (I.ok.inj _ _ _ e hc ▸ hi))
    · by_cases hcc : c' = c
      · subst hcc; exact ⟨_, hc'⟩
      · obtain ⟨w2, z2⟩ := I.cell y c' e
        exact ⟨w2, z2.sameBut hs hcc⟩
    · obtain ⟨e, n, ne, nf, d⟩ := I.pin p hp
      refine ⟨(hs.2 p.1 ?_).trans e, n, ne, nf, d⟩
      intro q
      rw [q, hoc] at e
      have q' : oc = p.2 := Option.some.inj e
      exact d w' (by rw [← q']; exact hocd)
theorem store_ok {M : Model} {A : Around} {E : Value → Shared → Prop} {i : Nat} {x : Str} {v : V} {u : Value} {Q : Unit → Shared → Prop} (I : Inv X pins σ H s) (hN : X.N.Nodup) (hi : X.N[i]? = some x) (hx : Loc X.env.scope x) (r : RelV v u)
    (h : ∀ s', Inv X pins (σ.set i (some v)) H s' → Q () s') (hf : X.fn x = true ∨ X.env.scope.names.lookup x = some .local := by first | exact .inl rfl | exact .inr rfl | assumption) : wpAny M A (storeName X.env x u) Q E s :=
  store_ok2 I hN hi hx r (fun s' I' _ => h s' I') hf
theorem Inv.call' {s' : Shared} {ch : List Addr} (I : Inv X pins σ H s) (ho : s'.os = s.os) (u : Un (frs X.stack) ch H H' s.heap s'.heap) (hok : HOk X.prog X.w H' s'.heap) (hg : AllBare s'.gens)
    (hch : ∀ b ∈ ch, (b ∈ X.ex ∨ X.s₀.heap.objs.size ≤ b) ∧ b ≠ X.env.locals ∧ (∀ x c, X.env.cells.lookup x = some c → c ≠ b) ∧ ∀ p ∈ X.pn ++ pins, p.1 ≠ b) : Inv X pins σ H' s' := by
  obtain ⟨h', g', d', t', o'⟩ := s'
  have e : o' = s.os := ho
  subst e
  exact I.call (g' := g') (t' := t') (d' := d') u hok hg hch
end
abbrev XK := Value → Option Addr → Hp → Prop
abbrev St := List (Option V)
abbrev VK := V → Hp → Prop
abbrev TE := St → Hp → VK → Prop
abbrev TT := St → Hp → (Bool → Hp → Prop) → Prop
abbrev TA := St → Hp → (List V → Hp → Prop) → Prop
structure Ends where
  nx : St → Hp → Prop
  rt : VK
  bk : St → Hp → Prop := fun _ _ => False
  ct : St → Hp → Prop := fun _ _ => False
abbrev TS := Ends → St → Hp → Prop
def EP (X : Cx) (pins : List (Addr × Obj)) (σ : St) (Q : VK) (u : Value) (s' : Shared) : Prop := ∃ v H', Inv X pins σ H' s' ∧ RelV v u ∧ Q v H'
def TP (X : Cx) (pins : List (Addr × Obj)) (σ : St) (Q : Bool → Hp → Prop) (b : Bool) (s' : Shared) : Prop := ∃ H', Inv X pins σ H' s' ∧ Q b H'
def AP (X : Cx) (pins : List (Addr × Obj)) (σ : St) (Q : List V → Hp → Prop) (us : List Value) (s' : Shared) : Prop := ∃ vs H', Inv X pins σ H' s' ∧ Vals vs us ∧ Q vs H'
def SP (X : Cx) (pins : List (Addr × Obj)) (D : Ends) (f : Flow) (s' : Shared) : Prop :=
  match f with
  | .next => ∃ σ' H', Inv X pins σ' H' s' ∧ D.nx σ' H'
  | .brk => ∃ σ' H', Inv X pins σ' H' s' ∧ D.bk σ' H'
  | .cont => ∃ σ' H', Inv X pins σ' H' s' ∧ D.ct σ' H'
  | .ret u => ∃ v σ' H', Inv X pins σ' H' s' ∧ RelV v u ∧ D.rt v H'
def PE (X : Cx) (e : Expr) (t : TE) : Prop :=
  ∀ (pins : List (Addr × Obj)) (s : Shared) (σ : St) (H : Hp) (Q : VK), Inv X pins σ H s → t σ H Q → wpAny (model X.prog X.w) X.A (eval e X.env) (EP X pins σ Q) X.xe s
def PT (X : Cx) (e : Expr) (t : TT) : Prop :=
  ∀ (pins : List (Addr × Obj)) (s : Shared) (σ : St) (H : Hp) (Q : Bool → Hp → Prop), Inv X pins σ H s → t σ H Q → wpAny (model X.prog X.w) X.A (isTrue e X.env (eval e X.env)) (TP X pins σ Q) X.xe s
def PW (X : Cx) (e : Expr) (t : TT) : Prop :=
  ∀ (whole : Sem Value) (pins : List (Addr × Obj)) (s : Shared) (σ : St) (H : Hp) (Q : Bool → Hp → Prop), Inv X pins σ H s → t σ H Q → wpAny (model X.prog X.w) X.A (isTrue e X.env whole) (TP X pins σ Q) X.xe s
theorem PW.pt {X : Cx} {e : Expr} {t : TT} (h : PW X e t) : PT X e t := h _
def PA (X : Cx) (es : List Expr) (t : TA) : Prop :=
  ∀ (pos : Pos) (pins : List (Addr × Obj)) (s : Shared) (σ : St) (H : Hp) (Q : List V → Hp → Prop), Inv X pins σ H s → t σ H Q → wpAny (model X.prog X.w) X.A (spliced (backTo pos (starEach es X.env))) (AP X pins σ Q) X.xe s
def PS (X : Cx) (st : Stmt) (t : TS) : Prop :=
  ∀ (pins : List (Addr × Obj)) (s : Shared) (σ : St) (H : Hp) (D : Ends), Inv X pins σ H s → t D σ H → wpAny (model X.prog X.w) X.A (exec st X.env) (SP X pins D) X.xe s
def PSs (X : Cx) (st : List Stmt) (t : TS) : Prop :=
  ∀ (pins : List (Addr × Obj)) (s : Shared) (σ : St) (H : Hp) (D : Ends), Inv X pins σ H s → t D σ H → wpAny (model X.prog X.w) X.A (execs st X.env) (SP X pins D) X.xe s
theorem thn {α : Type} {t : Sem α} {Q Q' : α → Shared → Prop} {M : Model} {A : Around} {E : Value → Shared → Prop} {s : Shared} (h : wpAny M A t Q E s) (hQ : ∀ a s, Q a s → Q' a s) : wpAny M A t Q' E s := wpAny_mono h hQ fun _ _ x => x
end L2
namespace L2
open PySem PySem.Spec PyProof.Rows
section
variable {X : Cx}
def tVar (i : Nat) : TE := fun σ H Q => ∃ v, σ[i]? = some (some v) ∧ Q v H
def tC (v : V) : TE := fun _ H Q => Q v H
theorem pe_var {i : Nat} {x : Str} {pos : Pos} (hN : X.N[i]? = some x) (hv : Vis X.env.scope x) (hd : (x == ("__debug__" : Str)) = false := by decide) (hcd : (x == ("__classdict__" : Str)) = false := by decide) : PE X (.Name x pos) (tVar i) := by
  intro pins s σ H Q I h
  obtain ⟨v, e, h⟩ := h
  obtain ⟨m, hn, hl⟩ := I.loc
  obtain ⟨u, r, l⟩ := hl i x v hN e hv
  have fin : EP X pins σ Q u s := ⟨v, H, I, r, h⟩
  rcases l with ⟨hk, hm⟩ | ⟨hk, c, hc, hcell⟩
  · exact wpAny_Name (wpAny_loadName_local I.ok.kind hk hn hm fin) hd
  · rcases hk with hk | hk
    · exact wpAny_Name (wpAny_loadName_cell I.ok.kind hk hc hcell fin) hd
    · exact wpAny_Name (wpAny_loadName_free I.ok.kind hk hc hcell fin hcd) hd
theorem pe_int {i j pos} : PE X (.Constant (.int i) j pos) (tC (.int i)) := fun _ _ _ H _ I h => wpAny_Constant_int ⟨.int i, H, I.tok _, ⟨_, rfl⟩, h⟩
theorem pe_bl {b j pos} : PE X (.Constant (.bool b) j pos) (tC (.bl b)) := fun _ _ _ H _ I h => Constant_bool ⟨.bl b, H, I, rfl, h⟩
theorem pe_str {x j pos} : PE X (.Constant (.str x) j pos) (tC (.str x)) := fun _ _ _ H _ I h => Calls.Constant_str ⟨.str x, H, I.tok _, ⟨_, rfl⟩, h⟩
def Gl (X : Cx) (x : Str) : Prop := X.env.kindOf x = some .globalImplicit
theorem ld_glob {E : Value → Shared → Prop} {pins : List (Addr × Obj)} {s : Shared} {σ : St} {H : Hp} {x : Str} {u : Value} {pos : Pos} {Q : Value → Shared → Prop} (I : Inv X pins σ H s) (hg : Gl X x) (hm : X.mg x = some u) (h : Q u s)
    (hd : (x == ("__debug__" : Str)) = false := by decide) : wpAny (model X.prog X.w) X.A (eval (.Name x pos) X.env) Q E s :=
  Calls.Name_function_global I.ok.kind hg (Calls.loadGlobal_global (by rw [I.ok.glob]; exact I.mod.glob.keeps I.bk) hm h) hd
theorem ld_blt {E : Value → Shared → Prop} {pins : List (Addr × Obj)} {s : Shared} {σ : St} {H : Hp} {x : Str} {u : Value} {pos : Pos} {Q : Value → Shared → Prop} (I : Inv X pins σ H s) (hg : Gl X x) (hm : X.mg x = none) (hv : bootBuiltins x = some u) (h : Q u s)
    (hn : x ≠ "__name__" := by decide) (hd : (x == ("__debug__" : Str)) = false := by decide) : wpAny (model X.prog X.w) X.A (eval (.Name x pos) X.env) Q E s := by
  obtain ⟨mb, h1, h2⟩ := I.mod.blt
  exact Calls.Name_function_global I.ok.kind hg (Calls.loadGlobal_builtin (by rw [I.ok.glob]; exact I.mod.glob.keeps I.bk) hm (by rw [I.ok.blt]; exact h1.keeps I.bk) ((h2 x hn).trans hv) h) hd
theorem pe_glob {x : Str} {v : V} {u : Value} {pos : Pos} (hg : Gl X x) (hm : X.mg x = some u) (r : RelV v u) (hd : (x == ("__debug__" : Str)) = false := by decide) : PE X (.Name x pos) (tC v) :=
  fun _ _ _ H _ I h => ld_glob I hg hm ⟨v, H, I, r, h⟩ hd
theorem pe_bltn {x : Str} {v : V} {u : Value} {pos : Pos} (hg : Gl X x) (hm : X.mg x = none) (hv : bootBuiltins x = some u) (r : RelV v u) (hn : x ≠ "__name__" := by decide) (hd : (x == ("__debug__" : Str)) = false := by decide) : PE X (.Name x pos) (tC v) :=
  fun _ _ _ H _ I h => ld_blt I hg hm hv ⟨v, H, I, r, h⟩ hn hd
variable {a b : Expr} {ta tb : TE} {pos : Pos}
def PC (X : Cx) (op : CmpOp) (a b : Expr) (t : TE) : Prop :=
  ∀ (pins : List (Addr × Obj)) (s : Shared) (σ : St) (H : Hp) (Q : VK), Inv X pins σ H s → t σ H Q →
    wpAny (model X.prog X.w) X.A (eval a X.env) (fun v s₁ => wpAny (model X.prog X.w) X.A (eval b X.env) (fun u s₂ => wpAny (model X.prog X.w) X.A (compareOp op v u) (EP X pins σ Q) X.xe s₂) X.xe s₁) X.xe s
theorem nobehind (b : Expr) {op : CmpOp} (h : op ≠ .In) (h2 : op ≠ .NotIn) : behindInMarks op b = false := by
  have e1 : (op == CmpOp.In) = false := by cases op <;> first | rfl | exact absurd rfl h
  have e2 : (op == CmpOp.NotIn) = false := by cases op <;> first | rfl | exact absurd rfl h2
  cases b <;> simp [behindInMarks, e1, e2]
def tB (t : TE) : TT := fun σ H Q => t σ H fun x H1 => ∃ c, x = .bl c ∧ Q c H1
theorem pt_cmp {op : CmpOp} {t : TE} (h : PC X op a b t) (h1 : behindInMarks op b = false := by first | exact nobehind _ (by decide) (by decide) | rfl) : PT X (.Compare a [op] [b] pos) (tB t) := by
  intro pins s σ H Q I hw
  refine wpAny_isTrue_Compare1 (thn (h pins s σ H _ I hw) fun v s1 h1 => thn h1 fun u s2 h2 => thn h2 fun c s3 ⟨x, H1, I1, r1, q1⟩ => ?_) h1
  obtain ⟨d, rfl, q⟩ := q1
  cases r1
  exact wpAny_truthy_bool ⟨H1, I1, q⟩
theorem pt_val {e : Expr} {t : TE} (h : PE X e t) (he : ∀ whole, isTrue e X.env whole = (do let v ← whole; standAt e.pos; holding [v] (truthy v)) := by intro _; rfl) : PT X e (tB t) := by
  intro pins s σ H Q I hw
  refine isTrue_plain (thn (h pins s σ H _ I hw) fun v s1 ⟨x, H1, I1, r1, q1⟩ => ?_) (he _)
  obtain ⟨d, rfl, q⟩ := q1
  cases r1
  exact wpAny_truthy_bool ⟨H1, I1, q⟩
variable {tA tB' : TT} {rest : List Expr}
def tAnd (t u : TT) : TT := fun σ H Q => t σ H fun c H1 => if c = true then u σ H1 Q else Q false H1
def tOr (t u : TT) : TT := fun σ H Q => t σ H fun c H1 => if c = true then Q true H1 else u σ H1 Q
def tNot (t : TT) : TT := fun σ H Q => t σ H fun c H1 => Q (!c) H1
theorem pw_and1 (ha : PT X a tA) : PW X (.BoolOp .And [a] pos) tA := by
  intro wh pins s σ H Q I h
  refine isTrue_and (thn (ha pins s σ H Q I h) fun c s1 e => ?_)
  cases c with
  | true => exact isTrue_and_nil e
  | false => exact e
theorem pw_or1 (ha : PT X a tA) : PW X (.BoolOp .Or [a] pos) tA := by
  intro wh pins s σ H Q I h
  refine isTrue_or (thn (ha pins s σ H Q I h) fun c s1 e => ?_)
  cases c with
  | false => exact isTrue_or_nil e
  | true => exact e
theorem pw_and (ha : PT X a tA) (hb : PW X (.BoolOp .And (b :: rest) pos) tB') : PW X (.BoolOp .And (a :: b :: rest) pos) (tAnd tA tB') := by
  intro wh pins s σ H Q I h
  refine isTrue_and (thn (ha pins s σ H _ I h) fun c s1 ⟨H1, I1, q1⟩ => ?_)
  cases c with
  | true => exact hb wh pins s1 σ H1 Q I1 q1
  | false => exact ⟨H1, I1, q1⟩
theorem pw_or (ha : PT X a tA) (hb : PW X (.BoolOp .Or (b :: rest) pos) tB') : PW X (.BoolOp .Or (a :: b :: rest) pos) (tOr tA tB') := by
  intro wh pins s σ H Q I h
  refine isTrue_or (thn (ha pins s σ H _ I h) fun c s1 ⟨H1, I1, q1⟩ => ?_)
  cases c with
  | true => exact ⟨H1, I1, q1⟩
  | false => exact hb wh pins s1 σ H1 Q I1 q1
theorem pt_not (ha : PT X a tA) : PT X (.UnaryOp .Not a pos) (tNot tA) := by
  intro pins s σ H Q I h
  exact isTrue_not (ha pins s σ H (fun c H1 => Q (!c) H1) I h)
def tAndV (ta tb : TE) : TE := fun σ H Q => ta σ H fun x H1 => ∃ c, x = .bl c ∧ if c = true then tb σ H1 Q else Q (.bl false) H1
def tNotV (ta : TE) : TE := fun σ H Q => ta σ H fun x H1 => ∃ c, x = .bl c ∧ Q (.bl (!c)) H1
theorem pe_one {op} {t : TE} (h : PE X a t) : PE X (.BoolOp op [a] pos) t := fun pins s σ H Q I hw => BoolOp_one (h pins s σ H Q I hw)
theorem pe_and (ha : PE X a ta) (hb : PE X (.BoolOp .And (b :: rest) pos) tb) : PE X (.BoolOp .And (a :: b :: rest) pos) (tAndV ta tb) := by
  intro pins s σ H Q I h
  refine BoolOp_and (thn (ha pins s σ H _ I h) fun v s1 ⟨x, H1, I1, r1, q1⟩ => ?_)
  obtain ⟨c, rfl, q1⟩ := q1
  cases r1
  refine wpAny_truthy_bool ?_
  cases c with
  | true => exact hb pins s1 σ H1 Q I1 q1
  | false => exact ⟨.bl false, H1, I1, rfl, q1⟩
theorem pe_not (ha : PE X a ta) : PE X (.UnaryOp .Not a pos) (tNotV ta) := by
  intro pins s σ H Q I h
  refine UnaryOp_ (thn (ha pins s σ H _ I h) fun v s1 ⟨x, H1, I1, r1, q1⟩ => ?_)
  obtain ⟨c, rfl, q1⟩ := q1
  cases r1
  exact not_of (wpAny_truthy_bool ⟨.bl (!c), H1, I1, rfl, q1⟩)
def tIf (t : TT) (ta tb : TE) : TE := fun σ H Q => t σ H fun c H1 => if c = true then ta σ H1 Q else tb σ H1 Q
theorem pe_ifExp {c : Expr} (hc : PT X c tA) (ha : PE X a ta) (hb : PE X b tb) : PE X (.IfExp c a b pos) (tIf tA ta tb) := by
  intro pins s σ H Q I h
  refine wpAny_IfExp (thn (hc pins s σ H _ I h) fun d s1 ⟨H1, I1, q1⟩ => ?_)
  cases d with
  | true => exact ha pins s1 σ H1 Q I1 q1
  | false => exact hb pins s1 σ H1 Q I1 q1
end
end L2
namespace L2
open PySem PySem.Spec PyProof.Rows
def SqL (K : PySem.W.Frag) (H : Hp) (a : Addr) (xs : List V) : Prop :=
  Rd H a (.lst xs) ∨
    ∃ (o : Obj) (its : Array Value) (n : Nat), K.lookup a = some o ∧ o.cls = .type "list" ∧ o.dict = none ∧ o.data = .seq its n ∧ its.size ≤ sizeLine ∧ Vals xs its.toList
def SqT (K : PySem.W.Frag) (H : Hp) (a : Addr) (xs : List V) : Prop :=
  Rd H a (.tup xs) ∨
    ∃ (o : Obj) (its : Array Value) (n : Nat), K.lookup a = some o ∧ o.cls = .type "tuple" ∧ o.data = .seq its n ∧ its.size ≤ sizeLine ∧ Vals xs its.toList
def absV : Value → Option V
  | .none => some .non
  | .bool b => some (.bl b)
  | .int i _ => some (.int i)
  | .str x _ => some (.str x)
  | .bytes b _ => some (.byt b)
  | .float b _ => some (.flt b)
  | .ref a => some (.ref a)
  | .type n => some (.ty n)
  | _ => none
theorem RelV.abs {x : V} {u : Value} (r : RelV x u) : absV u = some x := by
  cases x with
  | non => cases r; rfl
  | bl _ => cases r; rfl
  | int _ => obtain ⟨t, rfl⟩ := r; rfl
  | str _ => obtain ⟨t, rfl⟩ := r; rfl
  | byt _ => obtain ⟨t, rfl⟩ := r; rfl
  | flt _ => obtain ⟨t, rfl⟩ := r; rfl
  | ref _ => cases r; rfl
  | ty _ => cases r; rfl
theorem RelV.inj {x y : V} {u : Value} (r : RelV x u) (q : RelV y u) : x = y := Option.some.inj (r.abs.symm.trans q.abs)
theorem Vals.inj : ∀ {xs ys : List V} {us : List Value}, Vals xs us → Vals ys us → xs = ys
  | _, _, _, .nil, .nil => rfl
  | _, _, _, .cons r t, .cons r' t' => by rw [r.inj r', Vals.inj t t']
section
variable {X : Cx} {pins : List (Addr × Obj)} {σ : St} {H : Hp} {s : Shared} {a : Addr} {xs ys : List V}
theorem SqL.of {K : PySem.W.Frag} (h : H a = some (.lst xs)) : SqL K H a xs := .inl (.inl h)
theorem SqT.of {K : PySem.W.Frag} (h : H a = some (.tup xs)) : SqT K H a xs := .inl (.inl h)
theorem Inv.list (I : Inv X pins σ H s) (h : SqL X.K H a xs) : ∃ its : List Value, Vals xs its ∧ PlainL s.heap a its.toArray ∧ xs.length ≤ sizeLine := by
  rcases h with h | ⟨o, its, n, hk, hc, hd, hs, hz, r⟩
  · obtain ⟨z, its, n, r, e⟩ := h.ok I.hok
    exact ⟨its, r, ⟨_, n, e, rfl, rfl, rfl⟩, z⟩
  · refine ⟨its.toList, r, ⟨o, n, I.kIn a o hk, hc, hd, by simpa using hs⟩, ?_⟩
    have e := r.length
    simp only [Array.length_toList] at e
    omega
theorem Inv.tuple (I : Inv X pins σ H s) (h : SqT X.K H a xs) : ∃ its : List Value, Vals xs its ∧ IsTup s.heap a its.toArray ∧ xs.length ≤ sizeLine := by
  rcases h with h | ⟨o, its, n, hk, hc, hs, hz, r⟩
  · obtain ⟨z, its, r, p⟩ := h.ok I.hok
    exact ⟨its, r, p, z⟩
  · refine ⟨its.toList, r, ⟨o, I.kIn a o hk, hc, n, by simpa using hs⟩, ?_⟩
    have e := r.length
    simp only [Array.length_toList] at e
    omega
theorem Inv.list_inj (I : Inv X pins σ H s) (h : SqL X.K H a xs) (h' : SqL X.K H a ys) : xs = ys := by
  obtain ⟨its, r, ⟨o, n, e, _, _, d⟩, _⟩ := I.list h
  obtain ⟨its', r', ⟨o', n', e', _, _, d'⟩, _⟩ := I.list h'
  rw [e] at e'; cases e'
  rw [d] at d'
  injection d' with d1 _
  have : its = its' := by simpa using congrArg Array.toList d1
  subst this
  exact r.inj r'
theorem Inv.tuple_inj (I : Inv X pins σ H s) (h : SqT X.K H a xs) (h' : SqT X.K H a ys) : xs = ys := by
  obtain ⟨its, r, ⟨o, e, _, n, d⟩, _⟩ := I.tuple h
  obtain ⟨its', r', ⟨o', e', _, n', d'⟩, _⟩ := I.tuple h'
  rw [e] at e'; cases e'
  rw [d] at d'
  injection d' with d1 _
  have : its = its' := by simpa using congrArg Array.toList d1
  subst this
  exact r.inj r'
end
abbrev Cx.wish (X : Cx) (E : Value → Shared → Prop) : Cx := { X with xe := E }
abbrev Cx.nox (X : Cx) : Cx := X.wish fun _ _ => False
theorem Cx.Ok.wish {X : Cx} (ok : X.Ok) (E : Value → Shared → Prop) : (X.wish E).Ok :=
  ⟨ok.mod, ok.kind, ok.glob, ok.blt, ok.above, ok.inj, ok.has, ok.cab, ok.hd, ok.frames, ok.stk, ok.exf, ok.bs, ok.bsz, ok.noex, ok.exfs, ok.funs, ok.frf⟩
theorem Cx.Ok.unwish {X : Cx} {E : Value → Shared → Prop} (ok : (X.wish E).Ok) : X.Ok :=
  ⟨ok.mod, ok.kind, ok.glob, ok.blt, ok.above, ok.inj, ok.has, ok.cab, ok.hd, ok.frames, ok.stk, ok.exf, ok.bs, ok.bsz, ok.noex, ok.exfs, ok.funs, ok.frf⟩
section
variable {X : Cx} {pins : List (Addr × Obj)} {σ : St} {H : Hp} {s : Shared} {E : Value → Shared → Prop}
theorem Inv.wish (I : Inv X pins σ H s) (E : Value → Shared → Prop) : Inv (X.wish E) pins σ H s := ⟨I.ok.wish E, I.os, I.bare, I.base, I.loc, I.cell, I.free, I.freeC, I.pin, I.hok, I.len⟩
theorem Inv.unwish (I : Inv (X.wish E) pins σ H s) : Inv X pins σ H s := ⟨I.ok.unwish, I.os, I.bare, I.base, I.loc, I.cell, I.free, I.freeC, I.pin, I.hok, I.len⟩
theorem SP.unwish {D : Ends} {f : Flow} {s' : Shared} (h : SP (X.wish E) pins D f s') : SP X pins D f s' := by
  cases f with
  | next => obtain ⟨σ', H', I, q⟩ := h; exact ⟨σ', H', I.unwish, q⟩
  | brk => obtain ⟨σ', H', I, q⟩ := h; exact ⟨σ', H', I.unwish, q⟩
  | cont => obtain ⟨σ', H', I, q⟩ := h; exact ⟨σ', H', I.unwish, q⟩
  | ret u => obtain ⟨v, σ', H', I, r, q⟩ := h; exact ⟨v, σ', H', I.unwish, r, q⟩
theorem PE.nox {e : Expr} {t : TE} (h : PE X.nox e t) : PE X e t := fun pins s σ H Q I hw =>
  wpAny_mono (h pins s σ H Q (I.wish _) hw) (fun _ _ ⟨v, H', I', r, q⟩ => ⟨v, H', I'.unwish, r, q⟩) fun _ _ z => False.elim z
theorem PT.nox {e : Expr} {t : TT} (h : PT X.nox e t) : PT X e t := fun pins s σ H Q I hw =>
  wpAny_mono (h pins s σ H Q (I.wish _) hw) (fun _ _ ⟨H', I', q⟩ => ⟨H', I'.unwish, q⟩) fun _ _ z => False.elim z
theorem PSs.nox {st : List Stmt} {t : TS} (h : PSs X.nox st t) : PSs X st t := fun pins s σ H D I hw =>
  wpAny_mono (h pins s σ H D (I.wish _) hw) (fun _ _ q => q.unwish) fun _ _ z => False.elim z
end
section
variable {X : Cx} {st : Stmt} {rest : List Stmt} {t u : TS} {e : Expr} {te : TE} {pos : Pos}
def tNext : TS := fun D σ H => D.nx σ H
def tSeq (t u : TS) : TS := fun D σ H => t { D with nx := u D } σ H
theorem pss_nil : PSs X [] tNext := fun _ _ σ H _ I h => wpAny_execs_nil ⟨σ, H, I, h⟩
theorem pss_cons (h1 : PS X st t) (h2 : PSs X rest u) : PSs X (st :: rest) (tSeq t u) := by
  intro pins s σ H D I h
  refine wpAny_execs_cons (thn (h1 pins s σ H { D with nx := u D } I h) fun f s1 q => ?_)
  cases f with
  | next =>
    obtain ⟨σ', H', I', q⟩ := q
    exact h2 pins s1 σ' H' D I' q
  | ret v => exact q
  | brk => exact q
  | cont => exact q
theorem pss_one (h1 : PS X st t) : PSs X [st] t := by
  intro pins s σ H D I h
  refine wpAny_execs_cons (thn (h1 pins s σ H D I h) fun f s1 q => ?_)
  cases f with
  | next => exact wpAny_execs_nil q
  | ret v => exact q
  | brk => exact q
  | cont => exact q
def tCont : TS := fun D σ H => D.ct σ H
theorem ps_continue : PS X (.Continue pos) tCont := fun _ _ σ H _ I h => wpAny_Continue ⟨σ, H, I, h⟩
theorem Inv.quiet {pins : List (Addr × Obj)} {σ : St} {H : Hp} {s : Shared} (I : Inv X pins σ H s) : interactive X.env = false := by simp [interactive, I.ok.kind]
def tDrop (te : TE) : TS := fun D σ H => te σ H fun _ H1 => D.nx σ H1
theorem ps_expr (he : PE X e te) (hs : swapsWith e none pos.line X.env = pure false := by rfl) : PS X (.Expr e pos) (tDrop te) := by
  intro pins s σ H D I h
  exact wpAny_Expr_any (thn (he pins s σ H _ I h) fun v s1 ⟨x, H1, I1, r1, q1⟩ => ⟨σ, H1, I1, q1⟩) I.quiet hs
def tRet (te : TE) : TS := fun D σ H => te σ H D.rt
theorem ps_ret (he : PE X e te) : PS X (.Return (some e) pos) (tRet te) := by
  intro pins s σ H D I h
  exact wpAny_Return_some (thn (he pins s σ H _ I h) fun v s1 ⟨x, H1, I1, r1, q1⟩ => ⟨x, σ, H1, I1, r1, q1⟩)
def tIfS (c : TT) (t u : TS) : TS := fun D σ H => c σ H fun b H1 => if b = true then t D σ H1 else u D σ H1
theorem ps_if {c : Expr} {a b : List Stmt} {tc : TT} (hc : PT X c tc) (ha : PSs X a t) (hb : PSs X b u) : PS X (.If c a b pos) (tIfS tc t u) := by
  intro pins s σ H D I h
  refine wpAny_If (thn (hc pins s σ H _ I h) fun d s1 ⟨H1, I1, q1⟩ => ?_)
  cases d with
  | true => exact ha pins s1 σ H1 D I1 q1
  | false => exact hb pins s1 σ H1 D I1 q1
def tNever : TS := fun _ _ _ => False
theorem pss_never {sts : List Stmt} : PSs X sts tNever := fun _ _ _ _ _ _ h => h.elim
end
abbrev TG := V → St → Hp → (St → Hp → Prop) → Prop
abbrev TGs := List V → St → Hp → (St → Hp → Prop) → Prop
def PG (X : Cx) (target : Expr) (t : TG) : Prop :=
  ∀ (pins : List (Addr × Obj)) (s : Shared) (σ : St) (H : Hp) (v : V) (u : Value) (Q : St → Hp → Prop), Inv X pins σ H s → RelV v u → t v σ H Q →
    wpAny (model X.prog X.w) X.A (assign target X.env u) (fun _ s' => ∃ σ' H', Inv X pins σ' H' s' ∧ Q σ' H') X.xe s
def PGs (X : Cx) (ts : List Expr) (t : TGs) : Prop :=
  ∀ (pins : List (Addr × Obj)) (s : Shared) (σ : St) (H : Hp) (vs : List V) (us : List Value) (Q : St → Hp → Prop), Inv X pins σ H s → Vals vs us → t vs σ H Q →
    wpAny (model X.prog X.w) X.A (assignInOrder ((assignEach ts X.env).map (·.2)) us) (fun _ s' => ∃ σ' H', Inv X pins σ' H' s' ∧ Q σ' H') X.xe s
section
variable {X : Cx} {pos : Pos}
def gName (i : Nat) : TG := fun v σ H Q => Q (σ.set i (some v)) H
theorem pg_name {i : Nat} {x : Str} (hN : X.N.Nodup) (hi : X.N[i]? = some x) (hx : Loc X.env.scope x) (hf : X.fn x = true ∨ X.env.scope.names.lookup x = some .local := by first | exact .inl rfl | exact .inr rfl | assumption) : PG X (.Name x pos) (gName i) := by
  intro pins s σ H v u Q I r h
  exact wpAny_assign_Name (store_ok I hN hi hx r (fun s' I' => ⟨_, H, I', h⟩) hf)
def gNil : TGs := fun vs σ H Q => vs = [] ∧ Q σ H
def gCons (t : TG) (u : TGs) : TGs := fun vs σ H Q => ∃ v r, vs = v :: r ∧ t v σ H fun σ' H' => u r σ' H' Q
theorem pgs_nil : PGs X [] gNil := by
  intro pins s σ H vs us Q I r h
  obtain ⟨e, h⟩ := h
  subst e
  cases r
  exact assignInOrder_nil ⟨σ, H, I, h⟩
theorem pgs_cons {e : Expr} {es : List Expr} {t : TG} {u : TGs} (h1 : PG X e t) (h2 : PGs X es u)
    (hs : (assignEach (e :: es) X.env).map (·.2) = assign e X.env :: (assignEach es X.env).map (·.2) := by rfl) : PGs X (e :: es) (gCons t u) := by
  intro pins s σ H vs us Q I r h
  obtain ⟨v, vr, e1, h⟩ := h
  subst e1
  cases r with
  | cons r rr =>
    rw [hs]
    refine assignInOrder_cons (thn (h1 pins s σ H _ _ _ I r h) fun _ s1 ⟨σ1, H1, I1, q1⟩ => ?_)
    exact h2 pins s1 σ1 H1 _ _ Q I1 rr q1
def gTup (K : PySem.W.Frag) (n : Nat) (t : TGs) : TG := fun v σ H Q => ∃ a xs, v = .ref a ∧ SqT K H a xs ∧ xs.length = n ∧ t xs σ H Q
theorem pg_tup {es : List Expr} {k : Nat} {t : TGs} {n : Nat} (hc : X.calm = true) (h : PGs X es t)
    (hn : (assignEach es X.env).length = n := by rfl) (hst : (assignEach es X.env).findIdx? (·.1) = none := by rfl) : PG X (.Tuple es k pos) (gTup X.K n t) := by
  intro pins s σ H v u Q I r hw
  obtain ⟨a, xs, e1, hq, hl, hw⟩ := hw
  subst e1
  cases r
  obtain ⟨its, rv, ht, hz⟩ := I.tuple hq
  refine assign_Tuple_tuple (I.ok.hd hc) ht (by simp [hn, ← hl, rv.length]) hst fun h' hx => ?_
  have I1 : Inv X pins σ H { s with heap := h' } := I.kept (t' := s.toks) fun b o e => hx b o (Nat.ne_of_lt (Heap.lt_size e)) e
  exact h pins _ σ H xs _ Q I1 (by simpa using rv) hw
def tAsg (te : TE) (g : TG) : TS := fun D σ H => te σ H fun x H1 => g x σ H1 D.nx
theorem ps_set {i : Nat} {x : Str} {e : Expr} {te : TE} {pos' : Pos} (hN : X.N.Nodup) (hi : X.N[i]? = some x) (hx : Loc X.env.scope x) (he : PE X e te) (hs : swapsWith e (some (.Name x pos')) pos.line X.env = pure false := by rfl) (hf : X.fn x = true ∨ X.env.scope.names.lookup x = some .local := by first | exact .inl rfl | exact .inr rfl | assumption) :
    PS X (.Assign [.Name x pos'] e pos) (tAsg te (gName i)) := by
  intro pins s σ H D I h
  refine wpAny_Assign_Name (thn (he pins s σ H _ I h) fun v s1 ⟨y, H1, I1, r1, q1⟩ => ?_) hs
  exact store_ok I1 hN hi hx r1 (fun s2 I2 => ⟨_, H1, I2, q1⟩) hf
end
section
variable {X : Cx} {pos : Pos}
def tWhile (c : TT) (tb : TS) : TS := fun D σ H => ∃ W : Nat → St → Hp → Prop, (∃ m, W m σ H) ∧ ∀ m σ H, W m σ H →
  c σ H fun b H1 => if b = true then ∃ N : St → Hp → Prop, (∀ σ' H', N σ' H' → ∃ m', m' < m ∧ W m' σ' H') ∧ tb { D with nx := N, ct := N, bk := D.nx } σ H1 else D.nx σ H1
theorem ps_while {c : Expr} {body : List Stmt} {tc : TT} {tb : TS} (hp : PassesOwn (model X.prog X.w) X.A X.env X.xe) (hc : PT X c tc) (hb : PSs X body tb) : PS X (.While c body [] pos) (tWhile tc tb) := by
  intro pins s σ H D I h
  obtain ⟨W, ⟨m0, w0⟩, turn⟩ := h
  refine wpAny_While (codeAny_whileLoop (fun n s' => ∃ σ' H', Inv X pins σ' H' s' ∧ W n σ' H') ?_ m0 ⟨σ, H, I, w0⟩)
  rintro n s1 ⟨σ1, H1, I1, w1⟩
  refine wpAny_passesOwn hp (thn (hc pins s1 σ1 H1 _ I1 (turn n σ1 H1 w1)) fun b s2 ⟨H2, I2, q2⟩ => ?_)
  cases b with
  | true =>
    obtain ⟨N, hN, q2⟩ := q2
    rw [if_pos rfl]
    refine wpAny_passesOwn hp (thn (hb pins s2 σ1 H2 _ I2 q2) fun f s3 q3 => ?_)
    cases f with
    | next =>
      obtain ⟨σ3, H3, I3, n3⟩ := q3
      obtain ⟨m', hm, w3⟩ := hN σ3 H3 n3
      exact ⟨m', hm, σ3, H3, I3, w3⟩
    | cont =>
      obtain ⟨σ3, H3, I3, n3⟩ := q3
      obtain ⟨m', hm, w3⟩ := hN σ3 H3 n3
      exact ⟨m', hm, σ3, H3, I3, w3⟩
    | brk => exact q3
    | ret v => exact q3
  | false =>
    rw [if_neg Bool.false_ne_true]
    exact wpAny_execs_nil ⟨σ1, H2, I2, q2⟩
end
structure It where
  go : Nat → Hp → Prop
  yld : Nat → Hp → V → Hp → Prop
  stop : Nat → Hp → Prop
def FpOk (X : Cx) (pins : List (Addr × Obj)) (H : Hp) (b : Addr) : Prop :=
  H b = none ∧ b ≠ X.env.locals ∧ b ∉ X.fs ∧ (b ∈ X.ex ∨ X.s₀.heap.objs.size ≤ b) ∧ (∀ x c, X.env.cells.lookup x = some c → c ≠ b) ∧ ∀ p ∈ X.pn ++ pins, p.1 ≠ b
theorem Inv.fpOk {X : Cx} {pins : List (Addr × Obj)} {σ : St} {H H' : Hp} {s : Shared} {b : Addr} (I : Inv X pins σ H s) (hb : s.heap.objs.size ≤ b) (hn : H' b = none) : FpOk X pins H' b := by
  refine ⟨hn, Nat.ne_of_gt (Nat.lt_of_lt_of_le I.lt hb), I.nofs hb, .inr (Nat.le_trans I.sz hb), fun x c e z => ?_, fun p hp z => ?_⟩
  · obtain ⟨v, q⟩ := I.cell x c e
    exact absurd (Nat.lt_of_lt_of_le q.lt (by rw [z]; exact hb)) (Nat.lt_irrefl _)
  · exact absurd (Nat.lt_of_lt_of_le (Heap.lt_size (I.pin p hp).1) (by rw [z]; exact hb)) (Nat.lt_irrefl _)
structure Turn (P : Program) (w : World) (K : PySem.W.Frag) (tg : Expr) (J : It) (fp : List Addr) (it : Addr) (tn : Nat → Heap → Prop) : Prop where
  mem : it ∈ fp
  obj : ∀ i h, tn i h → ∀ b ∈ fp, ∃ o, h.get? b = some o ∧ ∀ v, o.data ≠ .cell v
  keep : ∀ i h h', tn i h → (∀ b ∈ fp, ∀ o, h.get? b = some o → h'.get? b = some o) → tn i h'
  item : ∀ (X : Cx), X.prog = P → X.w = w → X.K = K → X.calm = true → ∀ (i : Nat) (pins : List (Addr × Obj)) (s : Shared) (σ : St) (H : Hp) (E : Value → Shared → Prop), Inv X pins σ H s → (∀ b ∈ fp, FpOk X pins H b) → tn i s.heap → J.go i H →
    wpAny (model P w) X.A (pyNext (.ref it)) (fun r s1 => ∃ u, r = some u ∧
      wpAny (model P w) X.A (letOwnedTupleGo tg (.ref it) u) (fun _ s2 => ∃ x H', Inv X pins σ H' s2 ∧ RelV x u ∧ J.yld i H x H' ∧ tn (i + 1) s2.heap ∧ ∀ b ∈ fp, H' b = none) E s1) E s
  done : ∀ (X : Cx), X.prog = P → X.w = w → X.K = K → X.calm = true → ∀ (i : Nat) (pins : List (Addr × Obj)) (s : Shared) (σ : St) (H : Hp) (E : Value → Shared → Prop), Inv X pins σ H s → (∀ b ∈ fp, FpOk X pins H b) → tn i s.heap → J.stop i H →
    wpAny (model P w) X.A (pyNext (.ref it)) (fun r s1 => r = none ∧ Inv X pins σ H s1) E s
  self : ∀ (A : Around) (i : Nat) (s : Shared) (Q : Value → Shared → Prop) (E : Value → Shared → Prop), tn i s.heap → Q (.ref it) s → wpAny (model P w) A (pyIter (.ref it)) Q E s
abbrev TI := St → Hp → (It → Hp → Prop) → Prop
def PIE (X : Cx) (pins : List (Addr × Obj)) (σ : St) (tg : Expr) (R : It → Hp → Prop) (itv : Value) (s2 : Shared) : Prop :=
  ∃ (it : Addr) (fp : List Addr) (tn : Nat → Heap → Prop) (J : It) (H' : Hp), itv = .ref it ∧ Inv X pins σ H' s2 ∧ Turn X.prog X.w X.K tg J fp it tn ∧ tn 0 s2.heap ∧ (∀ b ∈ fp, FpOk X pins H' b) ∧ R J H'
def PI (X : Cx) (tg iter : Expr) (wi : TI) : Prop :=
  ∀ (pins : List (Addr × Obj)) (s : Shared) (σ : St) (H : Hp) (R : It → Hp → Prop), Inv X pins σ H s → wi σ H R →
    wpAny (model X.prog X.w) X.A (eval iter X.env) (fun v s1 => wpAny (model X.prog X.w) X.A (pyIter v) (PIE X pins σ tg R) X.xe s1) X.xe s
theorem go_of {M : Model} {A : Around} {E : Value → Shared → Prop} {s : Shared} {tg : Expr} {it : Addr} {u : Value} {o : Obj} {n : String} {vs : Array Value} {Q : Unit → Shared → Prop} (ho : s.heap.get? it = some o) (hc : o.cls = .type n) (hd : o.data = .fields vs)
    (hn : ["enumerate", "zip", "dict_itemiterator", "dict_reverseitemiterator", "odict_iterator", "itertools.zip_longest", "itertools.pairwise"].contains n = false) (hQ : Q () s) : wpAny M A (letOwnedTupleGo tg (.ref it) u) Q E s := by
  unfold letOwnedTupleGo
  cases tg <;> first
    | exact wpAny_pure hQ
    | (cases u <;> first
        | exact wpAny_pure hQ
        | (refine wpAny_bind (wpAny_load ho ?_)
           rw [hc, hd]
           show wpAny M A (if (["enumerate", "zip", "dict_itemiterator", "dict_reverseitemiterator", "odict_iterator", "itertools.zip_longest", "itertools.pairwise"].contains n && vs[0]? == some (rawInt _)) = true then _ else _) Q E s
           rw [if_neg (by intro h; rw [hn, Bool.false_and] at h; cases h)]
           exact wpAny_pure hQ))
def Itl (K : PySem.W.Frag) (a : Addr) : It :=
  ⟨fun i H => ∃ xs x, SqL K H a xs ∧ xs[i]? = some x, fun i H x H' => H' = H ∧ ∀ xs, SqL K H a xs → xs[i]? = some x, fun i H => ∃ xs, SqL K H a xs ∧ xs.length ≤ i⟩
def Itt (K : PySem.W.Frag) (a : Addr) : It :=
  ⟨fun i H => ∃ xs x, SqT K H a xs ∧ xs[i]? = some x, fun i H x H' => H' = H ∧ ∀ xs, SqT K H a xs → xs[i]? = some x, fun i H => ∃ xs, SqT K H a xs ∧ xs.length ≤ i⟩
def Itr (lo : Int) (n : Nat) : It := ⟨fun i _ => i < n, fun i H x H' => H' = H ∧ x = .int (lo + i), fun i _ => n ≤ i⟩
theorem turn_list {P : Program} {w : World} {K : PySem.W.Frag} {tg : Expr} (a it : Addr) : Turn P w K tg (Itl K a) [it] it (fun i h => h.IsListIter it a i) where
  mem := by simp
  obj := fun i h st b hb => by
    have e : b = it := by simpa using hb
    subst e
    obtain ⟨o, e, c, d⟩ := st
    exact ⟨o, e, fun v z => by rw [d] at z; cases z⟩
  keep := fun i h h' st k => st.at fun o e => k it (by simp) o e
  item := by
    intro X hP hw hK hc i pins s σ H E I hf st hg
    subst hP hw hK
    obtain ⟨xs, x, hq, hx⟩ := hg
    obtain ⟨its, rv, p, hz⟩ := I.list hq
    obtain ⟨u, hu, ru⟩ := rv.get hx
    obtain ⟨f0, f1, f2, f3, f4, f5⟩ := hf it (by simp)
    refine wpAny_pyNext_list_item st p.isList (x := u) (by simpa using hu) fun h' st' sb => ?_
    have I1 : Inv X pins σ H { s with heap := h' } := I.turned (t' := s.toks) (fun b o hb e => (sb.2 b hb).trans e) f0 f1 f3 f4 f5
    obtain ⟨o, e, c, d⟩ := id st'
    exact ⟨u, rfl, go_of (s := { s with heap := h' }) e c d (by decide) ⟨x, H, I1, ru, ⟨rfl, fun ys hy => by rw [I.list_inj hy hq]; exact hx⟩, st', fun b hb => (hf b hb).1⟩⟩
  done := by
    intro X hP hw hK hc i pins s σ H E I hf st hg
    subst hP hw hK
    obtain ⟨xs, hq, hx⟩ := hg
    obtain ⟨its, rv, p, hz⟩ := I.list hq
    obtain ⟨f0, f1, f2, f3, f4, f5⟩ := hf it (by simp)
    have hl := rv.length
    exact wpAny_pyNext_list_end (I.ok.hd hc) st p.isList (by simp; omega) fun h' eb => ⟨rfl, I.turned (t' := s.toks) (fun b o hb e => eb b o hb e) f0 f1 f3 f4 f5⟩
  self := fun _ _ _ _ _ st h => wpAny_pyIter_listiter st h
theorem turn_tuple {P : Program} {w : World} {K : PySem.W.Frag} {tg : Expr} (a it : Addr) : Turn P w K tg (Itt K a) [it] it (fun i h => h.IsTupleIter it a i) where
  mem := by simp
  obj := fun i h st b hb => by
    have e : b = it := by simpa using hb
    subst e
    obtain ⟨o, e, c, d⟩ := st
    exact ⟨o, e, fun v z => by rw [d] at z; cases z⟩
  keep := fun i h h' st k => st.at fun o e => k it (by simp) o e
  item := by
    intro X hP hw hK hc i pins s σ H E I hf st hg
    subst hP hw hK
    obtain ⟨xs, x, hq, hx⟩ := hg
    obtain ⟨its, rv, p, hz⟩ := I.tuple hq
    obtain ⟨u, hu, ru⟩ := rv.get hx
    obtain ⟨f0, f1, f2, f3, f4, f5⟩ := hf it (by simp)
    refine wpAny_pyNext_tuple_item st (show s.heap.IsTuple a its.toArray from p) (x := u) (by simpa using hu) fun h' st' sb => ?_
    have I1 : Inv X pins σ H { s with heap := h' } := I.turned (t' := s.toks) (fun b o hb e => (sb.2 b hb).trans e) f0 f1 f3 f4 f5
    obtain ⟨o, e, c, d⟩ := id st'
    exact ⟨u, rfl, go_of (s := { s with heap := h' }) e c d (by decide) ⟨x, H, I1, ru, ⟨rfl, fun ys hy => by rw [I.tuple_inj hy hq]; exact hx⟩, st', fun b hb => (hf b hb).1⟩⟩
  done := by
    intro X hP hw hK hc i pins s σ H E I hf st hg
    subst hP hw hK
    obtain ⟨xs, hq, hx⟩ := hg
    obtain ⟨its, rv, p, hz⟩ := I.tuple hq
    obtain ⟨f0, f1, f2, f3, f4, f5⟩ := hf it (by simp)
    have hl := rv.length
    exact wpAny_pyNext_tuple_end (I.ok.hd hc) st (show s.heap.IsTuple a its.toArray from p) (by simp; omega) fun h' eb => ⟨rfl, I.turned (t' := s.toks) (fun b o hb e => eb b o hb e) f0 f1 f3 f4 f5⟩
  self := fun _ _ _ _ _ st h => wpAny_pyIter_tupleiter st h
theorem turn_range {P : Program} {w : World} {K : PySem.W.Frag} {tg : Expr} (it : Addr) (lo : Int) (n : Nat) : Turn P w K tg (Itr lo n) [it] it (fun i h => IsRangeIter h it (lo + (i : Nat) * 1) ((n : Int) - (i : Nat)) 1) where
  mem := by simp
  obj := fun i h st b hb => by
    have e : b = it := by simpa using hb
    subst e
    exact ⟨_, st, fun v z => by
      have z' : Data.fields _ = Data.cell v := z
      cases z'⟩
  keep := fun i h h' st k => k it (by simp) _ st
  item := by
    intro X hP hw hK hc i pins s σ H E I hf st hg
    subst hP hw hK
    obtain ⟨f0, f1, f2, f3, f4, f5⟩ := hf it (by simp)
    have W := Walks.range (prog := X.prog) (w := X.w) (I.ok.hd hc) it lo 1 n
    refine W.item i s _ _ hg st fun v h' tk hv st' kk => ?_
    obtain ⟨t, rfl⟩ := hv
    have I1 : Inv X pins σ H { s with heap := h', toks := tk } := I.turned (fun b o hb e => kk b o (by simpa using hb) e) f0 f1 f3 f4 f5
    refine ⟨_, rfl, go_of (s := { s with heap := h', toks := tk }) (n := "range_iterator") st' rfl rfl (by decide) ⟨.int (lo + i), H, I1, ⟨t, ?_⟩, ⟨rfl, rfl⟩, st', fun b hb => (hf b hb).1⟩⟩
    rw [Int.mul_one]
  done := by
    intro X hP hw hK hc i pins s σ H E I hf st hg
    subst hP hw hK
    obtain ⟨f0, f1, f2, f3, f4, f5⟩ := hf it (by simp)
    exact wpAny_pyNext_range_end (I.ok.hd hc) st (by have : n ≤ i := hg; omega) fun h' eb => ⟨rfl, I.turned (t' := s.toks) (fun b o hb e => eb b o hb e) f0 f1 f3 f4 f5⟩
  self := fun _ _ _ _ _ st h => wpAny_pyIter_rangeiter st h
end L2
namespace L2
open PySem PySem.Spec PyProof.Rows
section
variable {X : Cx} {tg : Expr}
def iList (K : PySem.W.Frag) (tl : TE) : TI := fun σ H R => tl σ H fun x H1 => ∃ a, x = .ref a ∧ (∃ xs, SqL K H1 a xs) ∧ R (Itl K a) H1
def iTup (K : PySem.W.Frag) (tl : TE) : TI := fun σ H R => tl σ H fun x H1 => ∃ a, x = .ref a ∧ (∃ xs, SqT K H1 a xs) ∧ R (Itt K a) H1
theorem pi_list {l : Expr} {tl : TE} (hl : PE X l tl) : PI X tg l (iList X.K tl) := by
  intro pins s σ H R I h
  refine thn (hl pins s σ H _ I h) fun v s1 ⟨x, H1, I1, r1, q1⟩ => ?_
  obtain ⟨a, e, ⟨xs, hq⟩, q⟩ := q1
  subst e
  cases r1
  obtain ⟨its, rv, p, hz⟩ := I1.list hq
  refine wpAny_pyIter_list p.isList ?_
  refine ⟨s1.heap.objs.size, [s1.heap.objs.size], _, _, H1, rfl, I1.kept (t' := s1.toks) fun b o e => Heap.get?_push_of_some _ e, turn_list a _, ⟨_, Heap.get?_push_size _ rfl, rfl, rfl⟩, fun b hb => ?_, q⟩
  have e : b = s1.heap.objs.size := by simpa using hb
  subst e
  exact I1.fpOk (Nat.le_refl _) (I1.hok.fresh (Nat.le_refl _))
theorem pi_tup {l : Expr} {tl : TE} (hl : PE X l tl) : PI X tg l (iTup X.K tl) := by
  intro pins s σ H R I h
  refine thn (hl pins s σ H _ I h) fun v s1 ⟨x, H1, I1, r1, q1⟩ => ?_
  obtain ⟨a, e, ⟨xs, hq⟩, q⟩ := q1
  subst e
  cases r1
  obtain ⟨its, rv, p, hz⟩ := I1.tuple hq
  refine wpAny_pyIter_tuple (show s1.heap.IsTuple a its.toArray from p) ?_
  refine ⟨s1.heap.objs.size, [s1.heap.objs.size], _, _, H1, rfl, I1.kept (t' := s1.toks) fun b o e => Heap.get?_push_of_some _ e, turn_tuple a _, ⟨_, Heap.get?_push_size _ rfl, rfl, rfl⟩, fun b hb => ?_, q⟩
  have e : b = s1.heap.objs.size := by simpa using hb
  subst e
  exact I1.fpOk (Nat.le_refl _) (I1.hok.fresh (Nat.le_refl _))
theorem range_it {pins : List (Addr × Obj)} {σ : St} {H : Hp} {s : Shared} {R : It → Hp → Prop} {E : Value → Shared → Prop} {lo hi : Int} {t u v : Tok} {tk : Nat} (I : Inv X pins σ H s) (h1 : -(2 ^ 62) ≤ lo) (h2 : lo < 2 ^ 62) (h3 : -(2 ^ 62) ≤ hi) (h4 : hi < 2 ^ 62)
    (q : R (Itr lo (hi - lo).toNat) H) : wpAny (model X.prog X.w) X.A (pyIter (.ref s.heap.objs.size)) (PIE X pins σ tg R) E { s with heap := s.heap.push { cls := .type "range", data := .fields #[.int lo t, .int hi u, .int 1 v] }, toks := tk } := by
  refine wpAny_pyIter_range (IsRange.new ..) (small_one h1 h2 h3 h4) ?_
  have I1 : Inv X pins σ H { s with heap := s.heap.push { cls := .type "range", data := .fields #[.int lo t, .int hi u, .int 1 v] }, toks := tk } := I.kept fun b o e => Heap.get?_push_of_some _ e
  refine ⟨(s.heap.push { cls := .type "range", data := .fields #[.int lo t, .int hi u, .int 1 v] }).objs.size, [(s.heap.push { cls := .type "range", data := .fields #[.int lo t, .int hi u, .int 1 v] }).objs.size], _, _, H, rfl,
    I1.kept (t' := tk) fun b o e => Heap.get?_push_of_some _ e, turn_range _ lo (hi - lo).toNat, ?_, fun b hb => ?_, q⟩
  · have e1 : lo + ((0 : Nat) : Int) * 1 = lo := by simp
    have e2 : (((hi - lo).toNat : Nat) : Int) - ((0 : Nat) : Int) = Builtin.Range.rangeSize lo hi 1 := by rw [rangeSize_one]; split <;> omega
    show IsRangeIter _ _ (lo + ((0 : Nat) : Int) * 1) ((((hi - lo).toNat : Nat) : Int) - ((0 : Nat) : Int)) 1
    rw [e1, e2]
    exact Heap.get?_push_size _ rfl
  · have e : b = (s.heap.push { cls := .type "range", data := .fields #[.int lo t, .int hi u, .int 1 v] }).objs.size := by simpa using hb
    subst e
    exact I1.fpOk (Nat.le_refl _) (I1.hok.fresh (Nat.le_refl _))
def iRng1 (ta : TA) : TI := fun σ H R => ta σ H fun vs H1 => ∃ j : Int, vs = [.int j] ∧ -(2 ^ 62) ≤ j ∧ j < 2 ^ 62 ∧ R (Itr 0 j.toNat) H1
def iRng2 (ta : TA) : TI := fun σ H R => ta σ H fun vs H1 => ∃ i j : Int, vs = [.int i, .int j] ∧ (-(2 ^ 62) ≤ i ∧ i < 2 ^ 62 ∧ -(2 ^ 62) ≤ j ∧ j < 2 ^ 62) ∧ R (Itr i (j - i).toNat) H1
theorem pi_range1 {a : Expr} {ta : TA} {p pos : Pos} (hg : Gl X "range") (hm : X.mg "range" = none) (ha : PA X [a] ta) (hs : starEach [a] X.env = [(false, eval a X.env)] := by rfl) : PI X tg (.Call (.Name "range" p) [a] [] pos) (iRng1 ta) := by
  intro pins s σ H R I h
  refine Call_ (ld_blt I hg hm boot_range (PyProof.Rows.callWith_type1 (thn (ha pos pins s σ H _ I h) fun us s1 ⟨vs, H1, I1, r1, q1⟩ => ?_) hs rfl))
  obtain ⟨j, e, q1, q2, q⟩ := q1
  subst e
  cases r1 with
  | cons r rr =>
    cases rr
    obtain ⟨t, rfl⟩ := r
    exact call_range_1 (range_it I1 (by omega) (by omega) q1 q2 (by simpa using q))
theorem pi_range2 {a b : Expr} {ta : TA} {p pos : Pos} (hg : Gl X "range") (hm : X.mg "range" = none) (ha : PA X [a, b] ta) (hs : starEach [a, b] X.env = [(false, eval a X.env), (false, eval b X.env)] := by rfl) (hs2 : starEach [b] X.env = [(false, eval b X.env)] := by rfl) :
    PI X tg (.Call (.Name "range" p) [a, b] [] pos) (iRng2 ta) := by
  intro pins s σ H R I h
  refine Call_ (ld_blt I hg hm boot_range (PyProof.Rows.callWith_type1 (thn (ha pos pins s σ H _ I h) fun us s1 ⟨vs, H1, I1, r1, q1⟩ => ?_) (by rw [hs, hs2]) (by rw [hs2]; rfl)))
  obtain ⟨i, j, e, ⟨q1, q2, q3, q4⟩, q⟩ := q1
  subst e
  cases r1 with
  | cons r rr =>
    cases rr with
    | cons r' rr =>
      cases rr
      obtain ⟨t, rfl⟩ := r
      obtain ⟨t', rfl⟩ := r'
      exact call_range_2 (range_it I1 q1 q2 q3 q4 q)
def tFor (wi : TI) (g : TG) (tb : TS) : TS := fun D σ H => wi σ H fun J H1 => ∃ W : Nat → Nat → St → Hp → Prop, (∃ m, W 0 m σ H1) ∧ ∀ i m σ H, W i m σ H →
  (J.stop i H ∧ D.nx σ H) ∨ (J.go i H ∧ ∃ N : St → Hp → Prop, (∀ σ' H', N σ' H' → ∃ m', m' < m ∧ W (i + 1) m' σ' H') ∧ ∀ x H', J.yld i H x H' → g x σ H' fun σ2 H2 => tb { D with nx := N, ct := N, bk := D.nx } σ2 H2)
def pinsAt (fp : List Addr) (h : Heap) : List (Addr × Obj) := fp.filterMap fun b => (h.get? b).map fun o => (b, o)
theorem mem_pinsAt {fp : List Addr} {h : Heap} {b : Addr} {o : Obj} (hb : b ∈ fp) (e : h.get? b = some o) : (b, o) ∈ pinsAt fp h := List.mem_filterMap.mpr ⟨b, hb, by rw [e]; rfl⟩
theorem of_pinsAt {fp : List Addr} {h : Heap} {p : Addr × Obj} (hp : p ∈ pinsAt fp h) : p.1 ∈ fp ∧ h.get? p.1 = some p.2 := by
  obtain ⟨b, hb, e⟩ := List.mem_filterMap.mp hp
  cases q : h.get? b with
  | none => rw [q] at e; cases e
  | some o =>
    rw [q] at e
    have e' : (b, o) = p := Option.some.inj e
    subst e'
    exact ⟨hb, q⟩
theorem Inv.pinned {pins : List (Addr × Obj)} {σ : St} {H : Hp} {s : Shared} {fp : List Addr} (I : Inv X pins σ H s) (hf : ∀ b ∈ fp, FpOk X pins H b) (ho : ∀ b ∈ fp, ∃ o, s.heap.get? b = some o ∧ ∀ v, o.data ≠ .cell v) : Inv X (pins ++ pinsAt fp s.heap) σ H s :=
  I.pins_of fun p hp => (List.mem_append.mp hp).elim (fun z => I.pin p (List.mem_append_right _ z)) fun z => by
    obtain ⟨hb, e⟩ := of_pinsAt z
    obtain ⟨f0, f1, f2, _⟩ := hf p.1 hb
    obtain ⟨o, e', d⟩ := ho p.1 hb
    rw [e] at e'; cases e'
    exact ⟨e, f0, f1, f2, d⟩
theorem Inv.unpinned {pins pl : List (Addr × Obj)} {σ : St} {H : Hp} {s : Shared} (I : Inv X (pins ++ pl) σ H s) : Inv X pins σ H s := I.pins_of fun p hp => I.pin p (List.mem_append_right _ (List.mem_append_left _ hp))
theorem ps_for {iter : Expr} {body : List Stmt} {wi : TI} {g : TG} {tb : TS} {pos : Pos} (hp : PassesOwn (model X.prog X.w) X.A X.env X.xe) (hc : X.calm = true) (hi : PI X tg iter wi) (hg : PG X tg g) (hb : PSs X body tb)
    (hs : ∀ x, foldedSetIterable iter X.env x = pure x := by intro _; rfl) : PS X (.For tg iter body [] pos) (tFor wi g tb) := by
  intro pins s σ H D I h
  refine wpAny_For (thn (hi pins s σ H _ I h) fun v s1 h1 => thn h1 fun itv s2 h2 => ?_) hs
  obtain ⟨it, fp, tn, J, H2, e, I2, T, st2, f2, W, ⟨m0, w0⟩, turn⟩ := h2
  subst e
  have stat : ∀ {H' : Hp}, (∀ b ∈ fp, H' b = none) → ∀ b ∈ fp, FpOk X pins H' b := fun hn b hb => ⟨hn b hb, (f2 b hb).2⟩
  refine codeAny_forLoop_any (fun n s' => ∃ i σ' H', Inv X pins σ' H' s' ∧ tn i s'.heap ∧ (∀ b ∈ fp, H' b = none) ∧ W i n σ' H') ?_ m0 ⟨0, σ, H2, I2, st2, fun b hb => (f2 b hb).1, w0⟩
  rintro n s3 ⟨i, σ3, H3, I3, st3, fr3, w3⟩
  rcases turn i n σ3 H3 w3 with ⟨stop, qn⟩ | ⟨go, N, hN, step⟩
  · refine wpAny_passesOwn hp (thn (T.done X rfl rfl rfl hc i pins s3 σ3 H3 X.xe I3 (stat fr3) st3 stop) fun r s4 ⟨hr, I4⟩ => ?_)
    subst hr
    exact wpAny_execs_nil ⟨σ3, H3, I4, qn⟩
  · refine wpAny_passesOwn hp (thn (T.item X rfl rfl rfl hc i pins s3 σ3 H3 X.xe I3 (stat fr3) st3 go) fun r s4 ⟨u, hr, h4⟩ => ?_)
    subst hr
    refine wpAny_passesOwn hp (thn h4 fun _ s5 ⟨x, H5, I5, r5, y5, st5, fr5⟩ => ?_)
    have I5' := I5.pinned (stat fr5) (T.obj _ _ st5)
    refine wpAny_passesOwn hp (thn (hg _ s5 σ3 H5 x u _ I5' r5 (step x H5 y5)) fun _ s6 ⟨σ6, H6, I6, q6⟩ => ?_)
    refine wpAny_passesOwn hp (thn (hb _ s6 σ6 H6 _ I6 q6) fun f s7 q7 => ?_)
    have again : ∀ {σ7 : St} {H7 : Hp}, Inv X (pins ++ pinsAt fp s5.heap) σ7 H7 s7 → N σ7 H7 → ∃ m, m < n ∧ ∃ i σ' H', Inv X pins σ' H' s7 ∧ tn i s7.heap ∧ (∀ b ∈ fp, H' b = none) ∧ W i m σ' H' := fun {σ7 H7} I7 n7 => by
      obtain ⟨m', hm, w7⟩ := hN σ7 H7 n7
      refine ⟨m', hm, i + 1, σ7, H7, I7.unpinned, T.keep _ _ _ st5 fun b hb o e => (I7.pin (b, o) (List.mem_append_right _ (List.mem_append_right _ (mem_pinsAt hb e)))).1, fun b hb => ?_, w7⟩
      obtain ⟨o, e, d⟩ := T.obj _ _ st5 b hb
      exact (I7.pin (b, o) (List.mem_append_right _ (List.mem_append_right _ (mem_pinsAt hb e)))).2.1
    cases f with
    | next => obtain ⟨σ7, H7, I7, n7⟩ := q7; exact again I7 n7
    | cont => obtain ⟨σ7, H7, I7, n7⟩ := q7; exact again I7 n7
    | brk => obtain ⟨σ7, H7, I7, q7⟩ := q7; exact ⟨σ7, H7, I7.unpinned, q7⟩
    | ret v => obtain ⟨x7, σ7, H7, I7, r7, q7⟩ := q7; exact ⟨x7, σ7, H7, I7.unpinned, r7, q7⟩
end
theorem for_list {K : PySem.W.Frag} {a : Addr} {xs : List V} {g : TG} {tb : TS} {D : Ends} {σ : St} {H : Hp} (Pv : Nat → St → Hp → Prop) (h0 : Pv 0 σ H) (hl : ∀ i σ H, i ≤ xs.length → Pv i σ H → SqL K H a xs)
    (hs : ∀ i x σ H, xs[i]? = some x → Pv i σ H → g x σ H fun σ2 H2 => tb { D with nx := Pv (i + 1), ct := Pv (i + 1), bk := D.nx } σ2 H2) (hd : ∀ σ H, Pv xs.length σ H → D.nx σ H) :
    ∃ W : Nat → Nat → St → Hp → Prop, (∃ m, W 0 m σ H) ∧ ∀ i m σ H, W i m σ H →
      ((Itl K a).stop i H ∧ D.nx σ H) ∨ ((Itl K a).go i H ∧ ∃ N : St → Hp → Prop, (∀ σ' H', N σ' H' → ∃ m', m' < m ∧ W (i + 1) m' σ' H') ∧ ∀ x H', (Itl K a).yld i H x H' → g x σ H' fun σ2 H2 => tb { D with nx := N, ct := N, bk := D.nx } σ2 H2) := by
  refine ⟨fun i m σ H => m = xs.length - i ∧ i ≤ xs.length ∧ Pv i σ H, ⟨xs.length, by simp, Nat.zero_le _, h0⟩, ?_⟩
  rintro i m σ H ⟨rfl, hi, p⟩
  have q := hl i σ H hi p
  by_cases hlt : i < xs.length
  · refine .inr ⟨⟨xs, xs[i], q, by simp [hlt]⟩, Pv (i + 1), fun σ' H' p' => ⟨xs.length - (i + 1), by omega, rfl, hlt, p'⟩, fun x H' y => ?_⟩
    obtain ⟨e, y⟩ := y
    subst e
    exact hs i x σ _ (y xs q) p
  · have e : i = xs.length := by omega
    subst e
    exact .inl ⟨⟨xs, q, Nat.le_refl _⟩, hd σ H p⟩
theorem for_tup {K : PySem.W.Frag} {a : Addr} {xs : List V} {g : TG} {tb : TS} {D : Ends} {σ : St} {H : Hp} (Pv : Nat → St → Hp → Prop) (h0 : Pv 0 σ H) (hl : ∀ i σ H, i ≤ xs.length → Pv i σ H → SqT K H a xs)
    (hs : ∀ i x σ H, xs[i]? = some x → Pv i σ H → g x σ H fun σ2 H2 => tb { D with nx := Pv (i + 1), ct := Pv (i + 1), bk := D.nx } σ2 H2) (hd : ∀ σ H, Pv xs.length σ H → D.nx σ H) :
    ∃ W : Nat → Nat → St → Hp → Prop, (∃ m, W 0 m σ H) ∧ ∀ i m σ H, W i m σ H →
      ((Itt K a).stop i H ∧ D.nx σ H) ∨ ((Itt K a).go i H ∧ ∃ N : St → Hp → Prop, (∀ σ' H', N σ' H' → ∃ m', m' < m ∧ W (i + 1) m' σ' H') ∧ ∀ x H', (Itt K a).yld i H x H' → g x σ H' fun σ2 H2 => tb { D with nx := N, ct := N, bk := D.nx } σ2 H2) := by
  refine ⟨fun i m σ H => m = xs.length - i ∧ i ≤ xs.length ∧ Pv i σ H, ⟨xs.length, by simp, Nat.zero_le _, h0⟩, ?_⟩
  rintro i m σ H ⟨rfl, hi, p⟩
  have q := hl i σ H hi p
  by_cases hlt : i < xs.length
  · refine .inr ⟨⟨xs, xs[i], q, by simp [hlt]⟩, Pv (i + 1), fun σ' H' p' => ⟨xs.length - (i + 1), by omega, rfl, hlt, p'⟩, fun x H' y => ?_⟩
    obtain ⟨e, y⟩ := y
    subst e
    exact hs i x σ _ (y xs q) p
  · have e : i = xs.length := by omega
    subst e
    exact .inl ⟨⟨xs, q, Nat.le_refl _⟩, hd σ H p⟩
theorem for_range {lo : Int} {n : Nat} {g : TG} {tb : TS} {D : Ends} {σ : St} {H : Hp} (Pv : Nat → St → Hp → Prop) (h0 : Pv 0 σ H)
    (hs : ∀ i σ H, i < n → Pv i σ H → g (.int (lo + i)) σ H fun σ2 H2 => tb { D with nx := Pv (i + 1), ct := Pv (i + 1), bk := D.nx } σ2 H2) (hd : ∀ σ H, Pv n σ H → D.nx σ H) :
    ∃ W : Nat → Nat → St → Hp → Prop, (∃ m, W 0 m σ H) ∧ ∀ i m σ H, W i m σ H →
      ((Itr lo n).stop i H ∧ D.nx σ H) ∨ ((Itr lo n).go i H ∧ ∃ N : St → Hp → Prop, (∀ σ' H', N σ' H' → ∃ m', m' < m ∧ W (i + 1) m' σ' H') ∧ ∀ x H', (Itr lo n).yld i H x H' → g x σ H' fun σ2 H2 => tb { D with nx := N, ct := N, bk := D.nx } σ2 H2) := by
  refine ⟨fun i m σ H => m = n - i ∧ i ≤ n ∧ Pv i σ H, ⟨n, by simp, Nat.zero_le _, h0⟩, ?_⟩
  rintro i m σ H ⟨rfl, hi, p⟩
  by_cases hlt : i < n
  · refine .inr ⟨hlt, Pv (i + 1), fun σ' H' p' => ⟨n - (i + 1), by omega, rfl, hlt, p'⟩, fun x H' y => ?_⟩
    obtain ⟨e, y⟩ := y
    subst e y
    exact hs i σ _ hlt p
  · have e : i = n := by omega
    subst e
    exact .inl ⟨Nat.le_refl _, hd σ H p⟩
theorem while_by {c : TT} {tb : TS} {D : Ends} {σ : St} {H : Hp} (Pv : St → Hp → Prop) (μ : St → Hp → Nat) (h0 : Pv σ H)
    (hs : ∀ σ H, Pv σ H → c σ H fun b H1 => if b = true then tb { D with nx := fun σ' H' => Pv σ' H' ∧ μ σ' H' < μ σ H, ct := fun σ' H' => Pv σ' H' ∧ μ σ' H' < μ σ H, bk := D.nx } σ H1 else D.nx σ H1)
    (mono : ∀ σ H Q Q', (∀ b H1, Q b H1 → Q' b H1) → c σ H Q → c σ H Q') : tWhile c tb D σ H := by
  refine ⟨fun m σ H => m = μ σ H ∧ Pv σ H, ⟨_, rfl, h0⟩, ?_⟩
  rintro m σ H ⟨rfl, p⟩
  refine mono σ H _ _ (fun b H1 q => ?_) (hs σ H p)
  cases b with
  | true => exact ⟨_, fun σ' H' ⟨p', l⟩ => ⟨_, l, rfl, p'⟩, q⟩
  | false => exact q
end L2
namespace L2
open PySem PySem.Spec PyProof.Rows
abbrev R2 := V → V → Hp → VK → Prop
def OpR (X : Cx) (f : Value → Value → Sem Value) (r : R2) : Prop :=
  ∀ (pins : List (Addr × Obj)) (s : Shared) (σ : St) (H : Hp) (x y : V) (v u : Value) (Q : VK), Inv X pins σ H s → RelV x v → RelV y u → r x y H Q →
    wpAny (model X.prog X.w) X.A (f v u) (EP X pins σ Q) X.xe s
def UnR (X : Cx) (f : Value → Sem Value) (r : V → Hp → VK → Prop) : Prop :=
  ∀ (pins : List (Addr × Obj)) (s : Shared) (σ : St) (H : Hp) (x : V) (v : Value) (Q : VK), Inv X pins σ H s → RelV x v → r x H Q →
    wpAny (model X.prog X.w) X.A (f v) (EP X pins σ Q) X.xe s
def CallR (X : Cx) (f : Value) (r : List V → Hp → VK → Prop) : Prop :=
  ∀ (pins : List (Addr × Obj)) (s : Shared) (σ : St) (H : Hp) (xs : List V) (us : List Value) (Q : VK), Inv X pins σ H s → Vals xs us → r xs H Q →
    wpAny (model X.prog X.w) X.A (call f us) (EP X pins σ Q) X.xe s
def tOp (r : R2) (ta tb : TE) : TE := fun σ H Q => ta σ H fun x H1 => tb σ H1 fun y H2 => r x y H2 Q
def tUn (r : V → Hp → VK → Prop) (ta : TE) : TE := fun σ H Q => ta σ H fun x H1 => r x H1 Q
def rI (C : Int → Int → Prop) (g : Int → Int → V) : R2 := fun x y H Q => ∃ i j, x = .int i ∧ y = .int j ∧ C i j ∧ Q (g i j) H
def rI0 (g : Int → Int → V) : R2 := fun x y H Q => ∃ i j, x = .int i ∧ y = .int j ∧ Q (g i j) H
def rU (g : Int → V) : V → Hp → VK → Prop := fun x H Q => ∃ i, x = .int i ∧ Q (g i) H
section
variable {X : Cx} {a b c : Expr} {ta tb tc : TE} {pos : Pos}
theorem binT (ha : PE X a ta) (hb : PE X b tb) {pins : List (Addr × Obj)} {s : Shared} {σ : St} {H : Hp} {R : V → V → Hp → Prop} (I : Inv X pins σ H s)
    (h : ta σ H fun x H1 => tb σ H1 fun y H2 => R x y H2) {Q : Value → Shared → Prop} {f : Value → Value → Sem Value}
    (hf : ∀ v u s2 x y H2, Inv X pins σ H2 s2 → RelV x v → RelV y u → R x y H2 → wpAny (model X.prog X.w) X.A (f v u) Q X.xe s2) :
    wpAny (model X.prog X.w) X.A (eval a X.env) (fun v s₁ => wpAny (model X.prog X.w) X.A (eval b X.env) (fun u s₂ => wpAny (model X.prog X.w) X.A (f v u) Q X.xe s₂) X.xe s₁) X.xe s := by
  refine thn (ha pins s σ H _ I h) fun v s1 ⟨x, H1, I1, r1, q1⟩ => ?_
  refine thn (hb pins s1 σ H1 _ I1 q1) fun u s2 ⟨y, H2, I2, r2, q2⟩ => ?_
  exact hf v u s2 x y H2 I2 r1 r2 q2
theorem pe_op {op : Operator} {r : R2} (ho : OpR X (binaryOp op) r) (ha : PE X a ta) (hb : PE X b tb) : PE X (.BinOp a op b pos) (tOp r ta tb) := by
  intro pins s σ H Q I h
  exact wpAny_BinOp (binT ha hb I h fun v u s2 x y H2 I2 rx ry q => ho pins s2 σ H2 x y v u Q I2 rx ry q)
theorem pe_un {op : UnaryOp} {r : V → Hp → VK → Prop} (ho : UnR X (unaryOp op) r) (ha : PE X a ta) : PE X (.UnaryOp op a pos) (tUn r ta) := by
  intro pins s σ H Q I h
  exact UnaryOp_ (thn (ha pins s σ H _ I h) fun v s1 ⟨x, H1, I1, r1, q1⟩ => ho pins s1 σ H1 x v Q I1 r1 q1)
theorem opI {f : Value → Value → Sem Value} {C : Int → Int → Prop} {g : Int → Int → Int}
    (rule : ∀ (i j : Int) (t u : Tok) (s : Shared) (Q : Value → Shared → Prop) (E : Value → Shared → Prop), C i j → Q (.int (g i j) s.toks) { s with toks := s.toks + 1 } → wpAny (model X.prog X.w) X.A (f (.int i t) (.int j u)) Q E s) :
    OpR X f (rI C fun i j => .int (g i j)) := by
  intro pins s σ H x y v u Q I rx ry h
  obtain ⟨i, j, rfl, rfl, hc, q⟩ := h
  obtain ⟨t, rfl⟩ := rx
  obtain ⟨t', rfl⟩ := ry
  exact rule i j t t' s _ _ hc ⟨.int (g i j), H, I.tok _, ⟨_, rfl⟩, q⟩
theorem opI0 {f : Value → Value → Sem Value} {g : Int → Int → Int}
    (rule : ∀ (i j : Int) (t u : Tok) (s : Shared) (Q : Value → Shared → Prop) (E : Value → Shared → Prop), Q (.int (g i j) s.toks) { s with toks := s.toks + 1 } → wpAny (model X.prog X.w) X.A (f (.int i t) (.int j u)) Q E s) :
    OpR X f (rI0 fun i j => .int (g i j)) := by
  intro pins s σ H x y v u Q I rx ry h
  obtain ⟨i, j, rfl, rfl, q⟩ := h
  obtain ⟨t, rfl⟩ := rx
  obtain ⟨t', rfl⟩ := ry
  exact rule i j t t' s _ _ ⟨.int (g i j), H, I.tok _, ⟨_, rfl⟩, q⟩
theorem opB0 {f : Value → Value → Sem Value} {g : Int → Int → Bool}
    (rule : ∀ (i j : Int) (t u : Tok) (s : Shared) (Q : Value → Shared → Prop) (E : Value → Shared → Prop), Q (.bool (g i j)) s → wpAny (model X.prog X.w) X.A (f (.int i t) (.int j u)) Q E s) :
    OpR X f (rI0 fun i j => .bl (g i j)) := by
  intro pins s σ H x y v u Q I rx ry h
  obtain ⟨i, j, rfl, rfl, q⟩ := h
  obtain ⟨t, rfl⟩ := rx
  obtain ⟨t', rfl⟩ := ry
  exact rule i j t t' s _ _ ⟨.bl (g i j), H, I, rfl, q⟩
def CDiv (i j : Int) : Prop := 0 < j ∧ j < 1073741824
def CPow (i j : Int) : Prop := 0 ≤ j ∧ j ≤ 1000000 ∧ i.natAbs < 2 ^ 64
def CMul (i j : Int) : Prop := (-(2 ^ 64) < i ∧ i < 2 ^ 64) ∨ (-(2 ^ 64) < j ∧ j < 2 ^ 64)
theorem CMul.ok {i j : Int} (h : CMul i j) : IntMulOk i j := by
  rcases h with ⟨h1, h2⟩ | ⟨h1, h2⟩
  · exact .of_left (intBits_le_64 h1 h2)
  · exact .of_right (intBits_le_64 h1 h2)
theorem op_add : OpR X (binaryOp .Add) (rI0 fun i j => .int (i + j)) := opI0 fun _ _ _ _ _ _ _ q => add_int q
theorem op_sub : OpR X (binaryOp .Sub) (rI0 fun i j => .int (i - j)) := opI0 fun _ _ _ _ _ _ _ q => sub_int q
theorem op_mul : OpR X (binaryOp .Mult) (rI CMul fun i j => .int (i * j)) := opI fun _ _ _ _ _ _ _ hc q => mul_int q hc.ok
theorem op_fdiv : OpR X (binaryOp .FloorDiv) (rI CDiv fun i j => .int (i / j)) := opI fun i j _ _ _ _ _ hc q => by
  have h1 : (0 : Int) < j := hc.1
  have h2 : j < 1073741824 := hc.2
  exact floordiv_int (by omega) (by rw [Int.fdiv_eq_ediv_of_nonneg i (by omega)]; exact q) (.inl (PyProof.noPylong_small (by omega)))
theorem op_mod : OpR X (binaryOp .Mod) (rI (fun _ j => 0 < j) fun i j => .int (i % j)) := opI fun i j _ _ _ _ _ hc q => by
  have h1 : (0 : Int) < j := hc
  exact mod_int' (by omega) (by rw [Int.fmod_eq_emod_of_nonneg i (by omega)]; exact q)
theorem op_pow : OpR X (binaryOp .Pow) (rI CPow fun i j => .int (i ^ j.toNat)) := opI fun _ _ _ _ _ _ _ hc q => pow_int_small hc.1 hc.2.1 hc.2.2 q
theorem unI {f : Value → Sem Value} {g : Int → Int}
    (rule : ∀ (i : Int) (t : Tok) (s : Shared) (Q : Value → Shared → Prop) (E : Value → Shared → Prop), Q (.int (g i) s.toks) { s with toks := s.toks + 1 } → wpAny (model X.prog X.w) X.A (f (.int i t)) Q E s) :
    UnR X f (rU fun i => .int (g i)) := by
  intro pins s σ H x v Q I rx h
  obtain ⟨i, rfl, q⟩ := h
  obtain ⟨t, rfl⟩ := rx
  exact rule i t s _ _ ⟨.int (g i), H, I.tok _, ⟨_, rfl⟩, q⟩
theorem un_neg : UnR X (unaryOp .USub) (rU fun i => .int (-i)) := unI fun _ _ _ _ _ q => neg_int q
end
def scal : V → V → Bool
  | .non, .non => true | .non, .int _ => true | .int _, .non => true | .non, .bl _ => true | .bl _, .non => true | .non, .str _ => true | .str _, .non => true
  | .int _, .int _ => true | .bl _, .bl _ => true | .str _, .str _ => true | .byt _, .byt _ => true
  | .int _, .str _ => true | .str _, .int _ => true | .bl _, .str _ => true | .str _, .bl _ => true
  | _, _ => false
def rEq : R2 := fun x y H Q => scal x y = true ∧ Q (.bl (decide (x = y))) H
def rNe : R2 := fun x y H Q => scal x y = true ∧ Q (.bl (!decide (x = y))) H
theorem dec_int {i j : Int} : decide (V.int i = V.int j) = (i == j) := by
  rw [Bool.eq_iff_iff]
  simp
theorem dec_bl {i j : Bool} : decide (V.bl i = V.bl j) = (i == j) := by
  rw [Bool.eq_iff_iff]
  simp
theorem dec_str {i j : Str} : decide (V.str i = V.str j) = (i == j) := by
  rw [Bool.eq_iff_iff]
  simp
theorem dec_byt {i j : Array UInt8} : decide (V.byt i = V.byt j) = (i.toList == j.toList) := by
  rw [Bool.eq_iff_iff]
  cases i
  cases j
  simp
section
variable {X : Cx} {a b c : Expr} {ta tb tc : TE} {pos : Pos}
theorem fin_bl {pins : List (Addr × Obj)} {σ : St} {H : Hp} {s : Shared} {Q : VK} {k k' : Bool} (I : Inv X pins σ H s) (q : Q (.bl k) H) (e : k = k') : EP X pins σ Q (.bool k') s := by
  subst e
  exact ⟨.bl k, H, I, rfl, q⟩
theorem op_eq : OpR X (compareOp .Eq) rEq := by
  intro pins s σ H x y v u Q I rx ry h
  obtain ⟨hs, q⟩ := h
  cases x with
  | non =>
    cases rx
    cases y with
    | non => cases ry; exact PySem.EqNone.eq_none_none (fin_bl I q (by simp))
    | bl j => cases ry; exact PySem.EqNone.eq_none_bool (fin_bl I q (by simp))
    | int j => obtain ⟨t', rfl⟩ := ry; exact PySem.EqNone.eq_none_int (fin_bl I q (by simp))
    | str j => obtain ⟨t', rfl⟩ := ry; exact PySem.EqNone.eq_none_str (fin_bl I q (by simp))
    | _ => exact absurd (show false = true from hs) Bool.false_ne_true
  | bl i =>
    cases rx
    cases y with
    | non => cases ry; exact PySem.EqNone.eq_bool_none (fin_bl I q (by simp))
    | bl j => cases ry; exact eq_bool (fin_bl I q dec_bl)
    | str j => obtain ⟨t', rfl⟩ := ry; exact PySem.EqMixed.eq_bool_str (fin_bl I q (by simp))
    | _ => exact absurd (show false = true from hs) Bool.false_ne_true
  | int i =>
    obtain ⟨t, rfl⟩ := rx
    cases y with
    | non => cases ry; exact PySem.EqNone.eq_int_none (fin_bl I q (by simp))
    | int j => obtain ⟨t', rfl⟩ := ry; exact eq_int (fin_bl I q dec_int)
    | str j => obtain ⟨t', rfl⟩ := ry; exact PySem.EqMixed.eq_int_str (fin_bl I q (by simp))
    | _ => exact absurd (show false = true from hs) Bool.false_ne_true
  | str i =>
    obtain ⟨t, rfl⟩ := rx
    cases y with
    | non => cases ry; exact PySem.EqNone.eq_str_none (fin_bl I q (by simp))
    | bl j => cases ry; exact PySem.EqMixed.eq_str_bool (fin_bl I q (by simp))
    | int j => obtain ⟨t', rfl⟩ := ry; exact PySem.EqMixed.eq_str_int (fin_bl I q (by simp))
    | str j => obtain ⟨t', rfl⟩ := ry; exact eq_str (fin_bl I q dec_str)
    | _ => exact absurd (show false = true from hs) Bool.false_ne_true
  | byt i =>
    obtain ⟨t, rfl⟩ := rx
    cases y with
    | byt j => obtain ⟨t', rfl⟩ := ry; exact PySem.W.eq_bytes (fin_bl I q dec_byt)
    | _ => exact absurd (show false = true from hs) Bool.false_ne_true
  | _ => cases y <;> exact absurd (show false = true from hs) Bool.false_ne_true
theorem op_ne : OpR X (compareOp .NotEq) rNe := by
  intro pins s σ H x y v u Q I rx ry h
  obtain ⟨hs, q⟩ := h
  cases x with
  | non =>
    cases rx
    cases y with
    | non => cases ry; exact PySem.EqNone.ne_none_none (fin_bl I q (by simp))
    | bl j => cases ry; exact PySem.EqNone.ne_none_bool (fin_bl I q (by simp))
    | int j => obtain ⟨t', rfl⟩ := ry; exact PySem.EqNone.ne_none_int (fin_bl I q (by simp))
    | str j => obtain ⟨t', rfl⟩ := ry; exact PySem.EqNone.ne_none_str (fin_bl I q (by simp))
    | _ => exact absurd (show false = true from hs) Bool.false_ne_true
  | bl i =>
    cases rx
    cases y with
    | non => cases ry; exact PySem.EqNone.ne_bool_none (fin_bl I q (by simp))
    | bl j => cases ry; exact ne_bool (fin_bl I q (congrArg not dec_bl))
    | str j => obtain ⟨t', rfl⟩ := ry; exact PySem.EqMixed.ne_bool_str (fin_bl I q (by simp))
    | _ => exact absurd (show false = true from hs) Bool.false_ne_true
  | int i =>
    obtain ⟨t, rfl⟩ := rx
    cases y with
    | non => cases ry; exact PySem.EqNone.ne_int_none (fin_bl I q (by simp))
    | int j => obtain ⟨t', rfl⟩ := ry; exact ne_int (fin_bl I q (congrArg not dec_int))
    | str j => obtain ⟨t', rfl⟩ := ry; exact PySem.EqMixed.ne_int_str (fin_bl I q (by simp))
    | _ => exact absurd (show false = true from hs) Bool.false_ne_true
  | str i =>
    obtain ⟨t, rfl⟩ := rx
    cases y with
    | non => cases ry; exact PySem.EqNone.ne_str_none (fin_bl I q (by simp))
    | bl j => cases ry; exact PySem.EqMixed.ne_str_bool (fin_bl I q (by simp))
    | int j => obtain ⟨t', rfl⟩ := ry; exact PySem.EqMixed.ne_str_int (fin_bl I q (by simp))
    | str j => obtain ⟨t', rfl⟩ := ry; exact ne_str (fin_bl I q (congrArg not dec_str))
    | _ => exact absurd (show false = true from hs) Bool.false_ne_true
  | byt i =>
    obtain ⟨t, rfl⟩ := rx
    cases y with
    | byt j => obtain ⟨t', rfl⟩ := ry; exact PySem.W.ne_bytes (fin_bl I q (congrArg not dec_byt))
    | _ => exact absurd (show false = true from hs) Bool.false_ne_true
  | _ => cases y <;> exact absurd (show false = true from hs) Bool.false_ne_true
theorem op_lt : OpR X (compareOp .Lt) (rI0 fun i j => .bl (decide (i < j))) := opB0 fun _ _ _ _ _ _ _ q => lt_int q
theorem op_gt : OpR X (compareOp .Gt) (rI0 fun i j => .bl (decide (j < i))) := opB0 fun _ _ _ _ _ _ _ q => gt_int q
theorem op_ge : OpR X (compareOp .GtE) (rI0 fun i j => .bl (decide (j ≤ i))) := opB0 fun _ _ _ _ _ _ _ q => ge_int q
theorem op_in_str : OpR X (compareOp .In) (fun x y H Q => ∃ i j, x = .str i ∧ y = .str j ∧ Q (.bl (!(Builtin.Str.occurrences j i 0 j.length 1).isEmpty)) H) := by
  intro pins s σ H x y v u Q I rx ry h
  obtain ⟨i, j, rfl, rfl, q⟩ := h
  obtain ⟨t, rfl⟩ := rx
  obtain ⟨t', rfl⟩ := ry
  exact in_str (fin_bl I q rfl)
theorem OpR.or {f : Value → Value → Sem Value} {r r' : R2} (h : OpR X f r) (h' : OpR X f r') : OpR X f (fun x y H Q => r x y H Q ∨ r' x y H Q) := by
  intro pins s σ H x y v u Q I rx ry q
  rcases q with q | q
  · exact h pins s σ H x y v u Q I rx ry q
  · exact h' pins s σ H x y v u Q I rx ry q
theorem nomark (b : Expr) {op : CmpOp} (h : op ≠ .In := by decide) (h2 : op ≠ .NotIn := by decide) : behindInMarks op b = false := by
  have e1 : (op == CmpOp.In) = false := by cases op <;> first | rfl | exact absurd rfl h
  have e2 : (op == CmpOp.NotIn) = false := by cases op <;> first | rfl | exact absurd rfl h2
  cases b <;> simp [behindInMarks, e1, e2]
theorem pe_cmpR {op : CmpOp} {r : R2} (ho : OpR X (compareOp op) r) (ha : PE X a ta) (hb : PE X b tb) (hm : behindInMarks op b = false) : PE X (.Compare a [op] [b] pos) (tOp r ta tb) := by
  intro pins s σ H Q I h
  exact wpAny_Compare1 (binT ha hb I h fun v u s2 x y H2 I2 rx ry q => ho pins s2 σ H2 x y v u Q I2 rx ry q) hm
def tTest (t : TE) : TT := fun σ H Q => t σ H fun x H' => ∃ k, x = .bl k ∧ Q k H'
theorem pt_cmpR {op : CmpOp} {r : R2} (ho : OpR X (compareOp op) r) (ha : PE X a ta) (hb : PE X b tb) (hm : behindInMarks op b = false) : PT X (.Compare a [op] [b] pos) (tTest (tOp r ta tb)) := by
  intro pins s σ H Q I h
  refine wpAny_isTrue_Compare1 (thn (ha pins s σ H _ I h) fun v s1 ⟨x, H1, I1, r1, q1⟩ => thn (hb pins s1 σ H1 _ I1 q1) fun u s2 ⟨y, H2, I2, r2, q2⟩ =>
    thn (ho pins s2 σ H2 x y v u _ I2 r1 r2 q2) fun c s3 ⟨z, H3, I3, r3, k, e, q3⟩ => ?_) hm
  subst e
  cases r3
  exact wpAny_truthy_bool ⟨H3, I3, q3⟩
theorem line63 : (sizeLine : Nat) < 2 ^ 63 := by rw [sizeLine_eq]; decide
theorem op_add_str : OpR X (binaryOp .Add) (fun x y H Q => ∃ i j, x = .str i ∧ y = .str j ∧ i.length + j.length ≤ sizeLine ∧ Q (.str (i ++ j)) H) := by
  intro pins s σ H x y v u Q I rx ry h
  obtain ⟨i, j, rfl, rfl, hz, q⟩ := h
  obtain ⟨t, rfl⟩ := rx
  obtain ⟨t', rfl⟩ := ry
  exact add_str (fun t' tk => ⟨.str (i ++ j), H, I.tok _, ⟨_, rfl⟩, q⟩) hz
theorem vals1 {x : V} {us : List Value} (r : Vals [x] us) : ∃ u, us = [u] ∧ RelV x u := by
  cases r with
  | cons r1 r2 => cases r2; exact ⟨_, rfl, r1⟩
theorem vals2 {x y : V} {us : List Value} (r : Vals [x, y] us) : ∃ u w', us = [u, w'] ∧ RelV x u ∧ RelV y w' := by
  cases r with
  | cons r1 r2 =>
    cases r2 with
    | cons r3 r4 => cases r4; exact ⟨_, _, rfl, r1, r3⟩
theorem call_max2 (hc : X.calm = true) : CallR X (.builtin "max") (fun xs H Q => ∃ i j, xs = [.int i, .int j] ∧ Q (.int (if j > i then j else i)) H) := by
  intro pins s σ H xs us Q I r h
  obtain ⟨i, j, rfl, q⟩ := h
  obtain ⟨u, w', rfl, ⟨t, rfl⟩, ⟨t', rfl⟩⟩ := vals2 r
  refine max_two_ints (I.ok.hd hc) fun h' tk k => ⟨_, H, I.kept k, ?_, q⟩
  by_cases hj : j > i
  · rw [if_pos hj, if_pos hj]; exact ⟨_, rfl⟩
  · rw [if_neg hj, if_neg hj]; exact ⟨_, rfl⟩
theorem call_min2 (hc : X.calm = true) : CallR X (.builtin "min") (fun xs H Q => ∃ i j, xs = [.int i, .int j] ∧ Q (.int (if j < i then j else i)) H) := by
  intro pins s σ H xs us Q I r h
  obtain ⟨i, j, rfl, q⟩ := h
  obtain ⟨u, w', rfl, ⟨t, rfl⟩, ⟨t', rfl⟩⟩ := vals2 r
  refine min_two_ints (I.ok.hd hc) fun h' tk k => ⟨_, H, I.kept k, ?_, q⟩
  by_cases hj : j < i
  · rw [if_pos hj, if_pos hj]; exact ⟨_, rfl⟩
  · rw [if_neg hj, if_neg hj]; exact ⟨_, rfl⟩
theorem call_int1 : CallR X (.type "int") (fun xs H Q => (∃ i, xs = [.int i] ∧ Q (.int i) H) ∨ ∃ k, xs = [.bl k] ∧ Q (.int (if k then 1 else 0)) H) := by
  intro pins s σ H xs us Q I r h
  rcases h with ⟨i, rfl, q⟩ | ⟨k, rfl, q⟩
  · obtain ⟨u, rfl, t, rfl⟩ := vals1 r
    exact call_int_int ⟨.int i, H, I, ⟨_, rfl⟩, q⟩
  · obtain ⟨u, rfl, r1⟩ := vals1 r
    cases r1
    exact call_int_bool ⟨.int (if k then 1 else 0), H, I.tok _, ⟨_, rfl⟩, q⟩
end
end L2
namespace L2
open PySem PySem.Spec PyProof.Rows
structure ObjM (h : Heap) (x dx C : Addr) (mA : Str → Option Value) : Prop where
  obj : h.get? x = some (PySem.W.instObj C dx)
  ns : h.Ns1 dx mA
  ne : dx ≠ x
theorem lookIn_ns {h : Heap} {dx : Addr} {mA : Str → Option Value} (n : h.Ns1 dx mA) : ∃ od, h.get? dx = some od ∧ ∀ name, PySem.W.lookIn name od = some (mA name) := by
  obtain ⟨o, es, ep, ho, hd, hk, _, hm⟩ := n
  refine ⟨o, ho, fun name => ?_⟩
  have e := hm name
  unfold nsFind findBy at e
  rw [← Array.find?_toList] at e
  unfold PySem.W.lookIn
  rw [hd]
  dsimp only
  split
  · rename_i y q
    rw [q] at e
    exact congrArg some e
  · rename_i q
    rw [q] at e
    have a : es.toList.any (·.refKey) = false := by
      rw [List.any_eq_false]
      intro y hy
      obtain ⟨z, t, hkey⟩ := hk y (Array.mem_toList_iff.mp hy)
      simp [DictEntry.refKey, hkey]
    have a' : ¬ es.toList.any (·.refKey) = true := by rw [a]; exact Bool.false_ne_true
    rw [if_neg a']
    exact congrArg some e
theorem ObjM.look {h : Heap} {x dx C : Addr} {mA : Str → Option Value} (I : ObjM h x dx C mA) : ∃ od, PySem.W.InstAt h x (PySem.W.instObj C dx) C (some od) ∧ ∀ name, PySem.W.lookIn name od = some (mA name) :=
  let ⟨od, ho, hl⟩ := lookIn_ns I.ns
  ⟨od, ⟨I.obj, rfl, rfl, ho⟩, hl⟩
section
variable {prog : Program} {w : World} {A : Around} {E : Value → Shared → Prop} {s : Shared} {K : PySem.W.Frag} {x dx C f : Addr} {mA : Str → Option Value} {name : Str} {v : Value}
theorem get_map {expr : Bool} {Q : Value → Shared → Prop} (X : K.In s.heap) (I : ObjM s.heap x dx C mA) (hg : PySem.W.plainGet K C name = true) (hh : PySem.W.hasDictIn K C = true)
    (ha : PySem.W.findIn K (.ref C) name = some none) (hv : mA name = some v) (hv' : PySem.W.handedIn v = true) (h : Q v { s with toks := s.toks + 1 }) :
    wpAny (model prog w) A (getAttr (.ref x) name expr) Q E s := by
  obtain ⟨od, J, hl⟩ := I.look
  exact PySem.W.get_value X J (PySem.W.plainGet_of hg).1 (PySem.W.findObj_own hh ha rfl (by rw [hl, hv])) hv' h
theorem get_meth {pl : Sem Bool} {Q : Value × List Value → Shared → Prop} (X : K.In s.heap) (I : ObjM s.heap x dx C mA) (hg : PySem.W.plainGet K C name = true)
    (hf : PySem.W.findIn K (.ref C) name = some (some (.ref f))) (ht : PySem.W.isFn K (.ref f) = true) (hv : mA name = none) (h : Q (.ref f, [.ref x]) s) :
    wpAny (model prog w) A (getMethod (.ref x) name pl) Q E s := by
  obtain ⟨od, J, hl⟩ := I.look
  exact PySem.W.method_fn X J (PySem.W.plainGet_of hg).1 (PySem.W.plainGet_of hg).2 hf (beq_iff_eq.mp ht) (by show (PySem.W.lookIn name od).map (·.isSome) = some false; rw [hl, hv]; rfl) h
theorem set_map {ns : List Str} {Q : Unit → Shared → Prop} (X : K.In s.heap) (I : ObjM s.heap x dx C mA)
    (hs : PySem.W.findIn K (.ref C) "__setattr__" = some (some (.builtin "object.__setattr__"))) (hp : PySem.W.plainOver K C = true) (ht : PySem.W.takerIn K C name = some none) (hh : PySem.W.hasDictIn K C = true)
    (hw : PySem.Within mA ns) (hsz : ns.length ≤ sizeLine)
    (h : ∀ h', ObjM h' x dx C (fun y => if y = name then some v else mA y) → Heap.SameBut dx s.heap h' → Q () { s with heap := h', toks := s.toks + 2 }) :
    wpAny (model prog w) A (setAttr (.ref x) name v) Q E s := by
  obtain ⟨od, J, hl⟩ := I.look
  refine PySem.W.set_plain X J hs (PySem.W.osa_open (s := { s with toks := s.toks + 1 }) (r := none) X J hp ht fun b => ?_)
  obtain ⟨cd, hc, hd'⟩ := PySem.W.any_some hh
  have hx : s.heap.get? x = some ⟨.ref C, some dx, .plain, #[]⟩ := I.obj
  refine wpAny_bind (wpAny_pure (wpAny_bind (wpAny_bind (wpAny_loadPart hx (wpAny_bind (PySem.W.Looks.here (s := { s with toks := s.toks + 1 }) (PySem.W.looks_clsIn X hc) ?_))))))
  rw [hd']
  refine wpAny_pure (a := some dx) (wpAny_bind (wpAny_pure (wpAny_bind ?_)))
  refine wpAny_nsSet1 (s := { s with toks := s.toks + 1 }) I.ns fun h' hn2 hs2 => ?_
  obtain ⟨oD, esD, epD, hoD, hdD, hcD⟩ := hn2.count (PySem.Within.cons name v hw)
  refine wpAny_bind (wpAny_lookBehind hoD (by rw [hdD]; exact pastItsLine_dict (Nat.le_trans hcD (by rw [List.length_cons]; omega))) ?_)
  exact wpAny_pure (h _ ⟨(hs2.2 _ (Ne.symm I.ne)).trans I.obj, hn2, I.ne⟩ hs2)
theorem make_map {R : Result → Shared → Prop} {vs : List Value} {kw : List (Str × Value)} (X : K.In s.heap) (hm : PySem.W.makesIn K C = true)
    (hi : PySem.W.findIn K (.ref C) "__init__" = some (some (.ref f))) (hf : PySem.W.typeIn K (.ref f) = some (.type "function"))
    (h : codeAny (model prog w) (A.under (.builtin "type.__call__" ⟨.ref C :: vs, kw⟩)) (.call (.ref f) ⟨.ref (s.heap.objs.size + 1) :: vs, kw⟩) (PySem.W.InitBack (s.heap.objs.size + 1) R)
      { s with heap := (s.heap.push PySem.W.emptyDict).push (PySem.W.instObj C s.heap.objs.size) }) :
    codeAny (model prog w) A (.call (.ref C) ⟨vs, kw⟩) R s := by
  obtain ⟨hh, g, d, t, os⟩ := s
  exact PySem.W.make_core (PySem.W.makes_of X hm) (PySem.W.looks_findIn X hi) (fun self => PySem.W.bind_fn X self hf) (.inl rfl) h
end
def putF (f : Str) (v : V) : List (Str × V) → List (Str × V)
  | [] => [(f, v)]
  | (g, x) :: r => if g = f then (g, v) :: r else (g, x) :: putF f v r
theorem lookup_putF (f g : Str) (v : V) : ∀ fs : List (Str × V), (putF f v fs).lookup g = if g = f then some v else fs.lookup g
  | [] => by
    show List.lookup g [(f, v)] = _
    by_cases h : g = f
    · have hb : (g == f) = true := beq_iff_eq.mpr h
      simp only [List.lookup, hb, if_pos h]
    · have hb : (g == f) = false := beq_eq_false_iff_ne.mpr h
      simp only [List.lookup, hb, if_neg h]
  | (k, x) :: r => by
    have ih := lookup_putF f g v r
    rw [show putF f v ((k, x) :: r) = (if k = f then (k, v) :: r else (k, x) :: putF f v r) from rfl]
    by_cases hk : k = f
    · rw [if_pos hk]
      by_cases h : g = k
      · have hb : (g == k) = true := beq_iff_eq.mpr h
        simp only [List.lookup, hb, if_pos (h.trans hk)]
      · have hb : (g == k) = false := beq_eq_false_iff_ne.mpr h
        simp only [List.lookup, hb, if_neg (fun e : g = f => h (e.trans hk.symm))]
    · rw [if_neg hk]
      by_cases h : g = k
      · have hb : (g == k) = true := beq_iff_eq.mpr h
        simp only [List.lookup, hb, if_neg (fun e : g = f => hk (h.symm.trans e))]
      · have hb : (g == k) = false := beq_eq_false_iff_ne.mpr h
        simp only [List.lookup, hb]
        exact ih
theorem keys_putF (f : Str) (v : V) : ∀ fs : List (Str × V), f ∈ (putF f v fs).map (·.1) ∧ ∀ g, g ∈ fs.map (·.1) → g ∈ (putF f v fs).map (·.1)
  | [] => ⟨by simp [putF], fun g h => by simp at h⟩
  | (k, x) :: r => by
    obtain ⟨i1, i2⟩ := keys_putF f v r
    rw [show putF f v ((k, x) :: r) = (if k = f then (k, v) :: r else (k, x) :: putF f v r) from rfl]
    by_cases hk : k = f
    · rw [if_pos hk]
      subst hk
      exact ⟨by simp, fun g h => by simpa using h⟩
    · rw [if_neg hk]
      refine ⟨?_, fun g h => ?_⟩
      · rw [List.map_cons]
        exact List.mem_cons_of_mem _ i1
      · rw [List.map_cons] at h ⊢
        rcases List.mem_cons.mp h with e | e
        · exact List.mem_cons.mpr (.inl e)
        · exact List.mem_cons_of_mem _ (i2 g e)
theorem length_putF (f : Str) (v : V) : ∀ fs : List (Str × V), (putF f v fs).length ≤ fs.length + 1
  | [] => by simp [putF]
  | (k, x) :: r => by
    have ih := length_putF f v r
    rw [show putF f v ((k, x) :: r) = (if k = f then (k, v) :: r else (k, x) :: putF f v r) from rfl]
    by_cases hk : k = f
    · rw [if_pos hk, List.length_cons, List.length_cons]; omega
    · rw [if_neg hk, List.length_cons, List.length_cons]; omega
theorem RelO.some_of {v : V} {o : Option Value} (r : RelO (some v) o) : ∃ u, o = some u ∧ RelV v u := by
  cases o with
  | none => exact (show False from r).elim
  | some u => exact ⟨u, rfl, r⟩
theorem RelO.none_of {o : Option Value} (r : RelO none o) : o = none := by
  cases o with
  | none => rfl
  | some u => exact (show False from r).elim
theorem handed_of {v : V} {u : Value} (r : RelV v u) : PySem.W.handedIn u = true := by
  cases v with
  | non => cases (show u = Value.none from r); rfl
  | bl b => cases (show u = Value.bool b from r); rfl
  | int i => obtain ⟨t, e⟩ := (show ∃ t, u = Value.int i t from r); cases e; rfl
  | str x => obtain ⟨t, e⟩ := (show ∃ t, u = Value.str x t from r); cases e; rfl
  | byt b => obtain ⟨t, e⟩ := (show ∃ t, u = Value.bytes b t from r); cases e; rfl
  | flt b => obtain ⟨t, e⟩ := (show ∃ t, u = Value.float b t from r); cases e; rfl
  | ref a => cases (show u = Value.ref a from r); rfl
  | ty n => cases (show u = Value.type n from r); rfl
section
variable {P : Program} {w : World} {H H' : Hp} {h h' : Heap} {a C dx : Addr} {fs fs' : List (Str × V)}
theorem ins_get (hok : HOk P w H h) (e : H a = some (.ins C dx fs)) : ∃ mA, ObjM h a dx C mA ∧ (∀ f, RelO (fs.lookup f) (mA f)) ∧ PySem.Within mA (fs.map (·.1)) ∧ fs.length ≤ 1000 ∧ H dx = some (.own a) := by
  obtain ⟨d, z, ne, ob, mA, n, r, q⟩ := (show ObjOk P w H h a (.ins C dx fs) from hok a _ e)
  exact ⟨mA, ⟨ob, n, ne⟩, r, q, z, d⟩
end
structure Cls (K : PySem.W.Frag) (C : Addr) : Prop where
  pg : PySem.W.plainGet K C Str.empty = true
  hd : PySem.W.hasDictIn K C = true
  po : PySem.W.plainOver K C = true
  sa : PySem.W.findIn K (.ref C) "__setattr__" = some (some (.builtin "object.__setattr__"))
theorem Cls.get {K : PySem.W.Frag} {C : Addr} (c : Cls K C) (f : Str) : PySem.W.plainGet K C f = true := c.pg
def NoAttr (K : PySem.W.Frag) (C : Addr) (f : Str) : Prop := PySem.W.findIn K (.ref C) f = some none
theorem NoAttr.taker {K : PySem.W.Frag} {C : Addr} {f : Str} (n : NoAttr K C f) : PySem.W.takerIn K C f = some none := by
  unfold PySem.W.takerIn
  rw [show PySem.W.findIn K (.ref C) f = some none from n]
  rfl
structure Con (K : PySem.W.Frag) (C : Addr) (f : Str) (v : V) (u : Value) : Prop where
  at_ : PySem.W.findIn K (.ref C) f = some (some u)
  rel : RelV v u
  get : PySem.W.specialIn K u "__get__" = some none
  cp : PySem.W.copiedNames.contains f = false
structure Meth (K : PySem.W.Frag) (C : Addr) (m : Str) (f : Addr) : Prop where
  at_ : PySem.W.findIn K (.ref C) m = some (some (.ref f))
  fn : PySem.W.isFn K (.ref f) = true
  kp : PySem.W.keepIn K (.ref f) = true
section
variable {X : Cx} {pins : List (Addr × Obj)} {σ : St} {H : Hp} {s : Shared} {a C dx : Addr} {fs : List (Str × V)} {f : Str} {v : V} {A : Around} {E : Value → Shared → Prop}
theorem getattr_ok {b : Bool} {Q : Value → Shared → Prop} (I : Inv X pins σ H s) (e : H a = some (.ins C dx fs)) (c : Cls X.K C) (n : NoAttr X.K C f) (l : fs.lookup f = some v)
    (h : ∀ u s', Inv X pins σ H s' → RelV v u → Q u s') : wpAny (model X.prog X.w) A (getAttr (.ref a) f b) Q E s := by
  obtain ⟨mA, O, r, _, _, _⟩ := ins_get I.hok e
  obtain ⟨u, hu, ru⟩ := RelO.some_of (v := v) (o := mA f) (by rw [← l]; exact r f)
  exact get_map I.kIn O (c.get f) c.hd n hu (handed_of ru) (h u _ (I.tok _) ru)
theorem getmeth_ok {m : Str} {g : Addr} {pl : Sem Bool} {Q : Value × List Value → Shared → Prop} (I : Inv X pins σ H s) (e : H a = some (.ins C dx fs)) (c : Cls X.K C) (k : Meth X.K C m g) (l : fs.lookup m = none)
    (h : Q (.ref g, [.ref a]) s) : wpAny (model X.prog X.w) A (getMethod (.ref a) m pl) Q E s := by
  obtain ⟨mA, O, r, _, _, _⟩ := ins_get I.hok e
  have hn : mA m = none := RelO.none_of (by rw [← l]; exact r m)
  exact get_meth I.kIn O (c.get m) k.at_ k.fn hn h
theorem setattr_ok {y : V} {u : Value} {Q : Unit → Shared → Prop} (I : Inv X pins σ H s) (e : H a = some (.ins C dx fs)) (c : Cls X.K C) (n : NoAttr X.K C f) (hl : fs.length < 1000) (ry : RelV y u)
    (h : ∀ s', Inv X pins σ (upd H a (.ins C dx (putF f y fs))) s' → Q () s') : wpAny (model X.prog X.w) A (setAttr (.ref a) f u) Q E s := by
  obtain ⟨mA, O, r, wi, _, ho⟩ := ins_get I.hok e
  have hz : (fs.map (·.1)).length ≤ sizeLine := by rw [List.length_map, sizeLine_eq]; omega
  refine set_map I.kIn O c.sa c.po n.taker c.hd wi hz fun h' O' sb => h _ ?_
  have hd : ∃ o, h'.get? dx = some o := let ⟨o, _, _, e', _⟩ := O'.ns; ⟨o, e'⟩
  refine I.write (x := a) (e := dx) (by rw [e]; exact True.intro) (.inr ho) (fun b q hb z => (sb.2 b hb).trans z) hd ?_
  refine ⟨by rw [upd_ne O.ne]; exact ho, ?_, O.ne, O'.obj, _, O'.ns, fun g => ?_, fun g hg => ?_⟩
  · have := length_putF f y fs; omega
  · show RelO ((putF f y fs).lookup g) (if g = f then some u else mA g)
    rw [lookup_putF]
    by_cases q : g = f
    · rw [if_pos q, if_pos q]; exact ry
    · rw [if_neg q, if_neg q]; exact r g
  · by_cases q : g = f
    · rw [q]; exact (keys_putF f y fs).1
    · refine (keys_putF f y fs).2 g (wi g fun z => hg ?_)
      show (if g = f then some u else mA g) = none
      rw [if_neg q]; exact z
theorem Inv.made (I : Inv X pins σ H s) : Inv X pins σ (upd (upd H s.heap.objs.size (.own (s.heap.objs.size + 1))) (s.heap.objs.size + 1) (.ins C s.heap.objs.size []))
    { s with heap := (s.heap.push PySem.W.emptyDict).push (PySem.W.instObj C s.heap.objs.size) } := by
  have e1 : (s.heap.push PySem.W.emptyDict).get? s.heap.objs.size = some PySem.W.emptyDict := Heap.get?_push_size s.heap rfl
  have e2 : ((s.heap.push PySem.W.emptyDict).push (PySem.W.instObj C s.heap.objs.size)).get? (s.heap.objs.size + 1) = some (PySem.W.instObj C s.heap.objs.size) := by
    have := Heap.get?_push_size (s.heap.push PySem.W.emptyDict) (o := PySem.W.instObj C s.heap.objs.size) rfl
    rwa [Heap.size_push] at this
  have e3 : (s.heap.push PySem.W.emptyDict).Ns s.heap.objs.size (fun _ => none) := ⟨PySem.W.emptyDict, #[], _, e1, rfl, (fun e he => absurd he (by simp)), fun _ => rfl⟩
  have I1 := I.laid (a := s.heap.objs.size) (o := .own (s.heap.objs.size + 1)) (h' := s.heap.push PySem.W.emptyDict) (t' := s.toks) (fun b u q => Heap.get?_push_of_some _ q) (Nat.le_refl _) ⟨_, e1⟩
  refine I1.laid (a := s.heap.objs.size + 1) (o := .ins C s.heap.objs.size []) (t' := s.toks) (fun b u q => Heap.get?_push_of_some _ q) (Nat.le_of_eq (Heap.size_push _ _)) ?_
  have ne : s.heap.objs.size ≠ s.heap.objs.size + 1 := Nat.ne_of_lt (Nat.lt_succ_self _)
  refine ⟨by rw [upd_ne ne, upd_same], Nat.zero_le _, ne, e2, fun _ => none, (Heap.Ns1.of_empty e3).at fun o q => Heap.get?_push_of_some _ q, fun _ => True.intro, fun y hy => absurd rfl hy⟩
theorem attr_of {prog : Program} {w : World} {env : Env} {e : Expr} {f : Str} {pos : Pos} {s : Shared} {Q : Value → Shared → Prop} (hb : attributeBase e f env (eval e env) = eval e env)
    (h : wpAny (model prog w) A (eval e env) (fun o s₁ => wpAny (model prog w) A (getAttr o f true) Q E s₁) E s) : wpAny (model prog w) A (eval (.Attribute e f pos) env) Q E s :=
  Attribute_any_ h (by rw [arm_eval_Attribute, hb])
end
def tFld (K : PySem.W.Frag) (ta : TE) (f : Str) : TE := fun σ H Q => ta σ H fun x H1 => ∃ a C dx fs v, x = .ref a ∧ H1 a = some (.ins C dx fs) ∧ Cls K C ∧ NoAttr K C f ∧ fs.lookup f = some v ∧ Q v H1
def sFld (K : PySem.W.Frag) (ta tv : TE) (f : Str) : TS := fun D σ H => tv σ H fun y H1 => ta σ H1 fun x H2 => ∃ a C dx fs, x = .ref a ∧ H2 a = some (.ins C dx fs) ∧ Cls K C ∧ NoAttr K C f ∧ fs.length < 1000 ∧
  D.nx σ (upd H2 a (.ins C dx (putF f y fs)))
section
variable {X : Cx} {o e value : Expr} {f : Str} {pos pos' tpos : Pos} {ta tv : TE}
theorem pe_fld (he : PE X e ta) (hb : attributeBase e f X.env (eval e X.env) = eval e X.env) : PE X (.Attribute e f pos) (tFld X.K ta f) := by
  intro pins s σ H Q I h
  refine attr_of hb (thn (he pins s σ H _ I h) fun u s1 ⟨x, H1, I1, rx, a, C, dx, fs, v, ex, ea, c, n, l, q⟩ => ?_)
  subst ex
  obtain rfl : u = Value.ref a := rx
  exact getattr_ok I1 ea c n l fun u' s2 I2 ru => ⟨v, H1, I2, ru, q⟩
theorem ps_fld (ha : PE X o ta) (hv : PE X value tv) (hs : swapsWith value (some (.Attribute o f pos')) pos.line X.env = pure false) : PS X (.Assign [.Attribute o f pos'] value pos) (sFld X.K ta tv f) := by
  intro pins s σ H D I h
  refine plainObj_wpAny_Assign_Attribute (thn (hv pins s σ H _ I h) fun u s1 ⟨y, H1, I1, ry, q⟩ => thn (ha pins s1 σ H1 _ I1 q) fun ov s2 ⟨x, H2, I2, rx, a, C, dx, fs, ex, ea, c, n, l, q2⟩ => ?_) hs
  subst ex
  obtain rfl : ov = Value.ref a := rx
  exact setattr_ok I2 ea c n l ry fun s3 I3 => ⟨σ, _, I3, q2⟩
end
section
variable {X : Cx} {pins : List (Addr × Obj)} {σ : St} {H : Hp} {s : Shared} {A : Around} {E : Value → Shared → Prop} {Q : Value → Shared → Prop} {c : Value} {b : Bool}
inductive TyOf (K : PySem.W.Frag) (H : Hp) : V → Value → Prop where
  | non : TyOf K H .non (.type "NoneType")
  | bl (x : Bool) : TyOf K H (.bl x) (.type "bool")
  | int (i : Int) : TyOf K H (.int i) (.type "int")
  | str (x : Str) : TyOf K H (.str x) (.type "str")
  | flt (x : UInt64) : TyOf K H (.flt x) (.type "float")
  | lst {a : Addr} {xs : List V} (e : H a = some (.lst xs)) : TyOf K H (.ref a) (.type "list")
  | frz {a : Addr} {o : Obj} {xs : List V} (e : H a = some (.frz o (.lst xs))) : TyOf K H (.ref a) (.type "list")
  | tup {a : Addr} {xs : List V} (e : H a = some (.tup xs)) : TyOf K H (.ref a) (.type "tuple")
  | dK {a : Addr} {kvs : List (Key × V)} (e : H a = some (.dK kvs)) : TyOf K H (.ref a) (.type "dict")
  | dT {a : Addr} {kvs : List (List Key × V)} (e : H a = some (.dT kvs)) : TyOf K H (.ref a) (.type "dict")
  | ins {a C dx : Addr} {fs : List (Str × V)} (e : H a = some (.ins C dx fs)) (cl : Cls K C) (ha : PySem.W.findIn K (.ref C) "__class__" = some (some (.builtin "object.__class__")))
      (hn : PySem.W.specialIn K (.builtin "object.__class__") "__get__" = some (some (.builtin "getset_descriptor.__get__"))) (htk : PySem.W.takesIn K (.builtin "object.__class__") = some true)
      (hm : PySem.W.mroIn K C (.type "object") = some true) : TyOf K H (.ref a) (.ref C)
theorem isinst_ok {x : V} {u t : Value} (I : Inv X pins σ H s) (rx : RelV x u) (ty : TyOf X.K H x t) (e : PySem.W.kitOne X.K t c = some b) (h : ∀ tk, Q (.bool b) { s with toks := tk }) :
    wpAny (model X.prog X.w) A (call (.builtin "isinstance") [u, c]) Q E s := by
  cases ty with
  | non => cases (show u = Value.none from rx); exact PySem.W.kia_one PySem.W.kitx_none I.kIn True.intro e (fun z => nomatch z) h
  | bl y => cases (show u = Value.bool y from rx); exact PySem.W.kia_one PySem.W.kitx_bool I.kIn True.intro e (fun z => nomatch z) h
  | int i => obtain ⟨t, q⟩ := (show ∃ t, u = Value.int i t from rx); cases q; exact PySem.W.kia_one PySem.W.kitx_int I.kIn True.intro e (fun z => nomatch z) h
  | str y => obtain ⟨t, q⟩ := (show ∃ t, u = Value.str y t from rx); cases q; exact PySem.W.kia_one PySem.W.kitx_str I.kIn True.intro e (fun z => nomatch z) h
  | flt y => obtain ⟨t, q⟩ := (show ∃ t, u = Value.float y t from rx); cases q; exact PySem.W.kia_one PySem.W.kitx_float I.kIn True.intro e (fun z => nomatch z) h
  | @lst a xs ea =>
    cases (show u = Value.ref a from rx)
    obtain ⟨_, _, n, _, h1⟩ := (show ObjOk X.prog X.w H s.heap a (.lst xs) from I.hok a _ ea)
    exact PySem.W.kia_one PySem.W.kitx_list I.kIn ⟨_, h1, rfl⟩ e (fun z => nomatch z) h
  | @frz a ob xs ea =>
    cases (show u = Value.ref a from rx)
    obtain ⟨_, _, _, n, _, h1⟩ := (show ObjOk X.prog X.w H s.heap a (.frz ob (.lst xs)) from I.hok a _ ea)
    exact PySem.W.kia_one PySem.W.kitx_list I.kIn ⟨_, h1, rfl⟩ e (fun z => nomatch z) h
  | @tup a xs ea =>
    cases (show u = Value.ref a from rx)
    obtain ⟨_, _, _, p⟩ := (show ObjOk X.prog X.w H s.heap a (.tup xs) from I.hok a _ ea)
    obtain ⟨o, h1, h2, _⟩ := p
    exact PySem.W.kia_one PySem.W.kitx_tuple I.kIn ⟨o, h1, h2⟩ e (fun z => nomatch z) h
  | @dK a kvs ea =>
    cases (show u = Value.ref a from rx)
    obtain ⟨_, _, vs, _, p⟩ := (show ObjOk X.prog X.w H s.heap a (.dK kvs) from I.hok a _ ea)
    obtain ⟨o, es, ep, h1, h2, _⟩ := p
    exact PySem.W.kia_one PySem.W.kitx_dict I.kIn ⟨o, h1, h2.1⟩ e (fun z => nomatch z) h
  | @dT a kvs ea =>
    cases (show u = Value.ref a from rx)
    obtain ⟨_, _, xs, _, o, es, ep, h1, h2, _⟩ := (show ObjOk X.prog X.w H s.heap a (.dT kvs) from I.hok a _ ea)
    exact PySem.W.kia_one PySem.W.kitx_dict I.kIn ⟨o, h1, h2.1⟩ e (fun z => nomatch z) h
  | @ins a C dx fs ea cl ha hn htk hm =>
    cases (show u = Value.ref a from rx)
    obtain ⟨mA, O, _⟩ := ins_get I.hok ea
    obtain ⟨od, J, _⟩ := O.look
    exact PySem.W.kia_one (PySem.W.kitx_own (cl.get _) cl.hd ha hn htk hm) I.kIn J e (fun z => nomatch z) h
end
end L2
namespace L2
open PySem PySem.Spec PyProof.Rows
structure Room (k : Nat) (A : Around) : Prop where
  hd : A.handled = none
  dp : A.depth + 3 * k + 5 < recursionLimit
  un : A.units + 16 * k + 200 < cLine
  gd : A.guards = some []
theorem Room.mono {j k : Nat} {A : Around} (r : Room k A) (h : j ≤ k) : Room j A := ⟨r.hd, by have := r.dp; omega, by have := r.un; omega, r.gd⟩
theorem Room.deeper {k : Nat} {A : Around} (r : Room (k + 1) A) (env : Env) : Room k (A.deeper env) :=
  ⟨r.hd, by have := r.dp; show A.depth + 1 + 3 * k + 5 < _; omega, by have := r.un; show A.units + 3 + 16 * k + 200 < _; omega, r.gd⟩
theorem Room.in1 {k : Nat} {A : Around} (r : Room (k + 1) A) : Room k A.in1 :=
  ⟨r.hd, by have := r.dp; show A.depth + 3 * k + 5 < _; omega, by have := r.un; show A.units + 1 + 16 * k + 200 < _; omega, r.gd⟩
theorem make_depth {A : Around} {C : Addr} {us : List Value} {kw : List (Str × Value)} : (A.under (.builtin "type.__call__" ⟨.ref C :: us, kw⟩)).depth = A.depth + 1 := by
  first | rfl | simp [Around.under, Code.weight, Code.isCreation, Code.isGuard, Code.isCaller, Code.frames, Code.isFrame, guardIds]
theorem make_units {A : Around} {C : Addr} {us : List Value} {kw : List (Str × Value)} : (A.under (.builtin "type.__call__" ⟨.ref C :: us, kw⟩)).units = A.units + 1 := by
  first | rfl | simp [Around.under, Code.cUnits, Code.frames, Code.isFrame]
theorem make_guards {A : Around} {C : Addr} {us : List Value} {kw : List (Str × Value)} : (A.under (.builtin "type.__call__" ⟨.ref C :: us, kw⟩)).guards = A.guards := by
  first | rfl | simp [Around.under, Code.guards, Code.isGuard, guardIds, pushGuards]
theorem Room.make {k : Nat} {A : Around} (r : Room (k + 1) A) (C : Addr) (us : List Value) (kw : List (Str × Value)) : Room k (A.under (.builtin "type.__call__" ⟨.ref C :: us, kw⟩)) :=
  ⟨r.hd, by have := r.dp; rw [make_depth]; omega, by have := r.un; rw [make_units]; omega, by rw [make_guards]; exact r.gd⟩
theorem Room.depth {k : Nat} {A : Around} (r : Room k A) : A.depth < recursionLimit := by have := r.dp; omega
theorem Room.units {k : Nat} {A : Around} (r : Room k A) : A.units + 64 < cLine := by have := r.un; omega
theorem Room.units0 {k : Nat} {A : Around} (r : Room k A) : A.units < cLine := by have := r.un; omega
def tNil : TA := fun _ H Q => Q [] H
def tCons (ta : TE) (tr : TA) : TA := fun σ H Q => ta σ H fun x H1 => tr σ H1 fun xs H2 => Q (x :: xs) H2
section
variable {X : Cx} {e : Expr} {es : List Expr} {te : TE} {t : TA} {pos : Pos}
theorem pa_nil : PA X [] tNil := fun _ _ _ _ H Q I h => Calls.spliced_nil ⟨[], H, I, .nil, h⟩
theorem pa_cons (ha : PE X e te) (hr : PA X es t) (hs : starEach (e :: es) X.env = (false, eval e X.env) :: starEach es X.env := by rfl) : PA X (e :: es) (tCons te t) := by
  intro pos pins s σ H Q I h
  rw [hs]
  show wpAny _ _ (spliced ((false, eval e X.env) :: backTo pos (starEach es X.env))) _ _ s
  refine Calls.spliced_cons (thn (ha pins s σ H _ I h) fun u s1 ⟨x, H1, I1, r1, q1⟩ => ?_)
  exact thn (hr pos pins s1 σ H1 _ I1 q1) fun us s2 ⟨xs, H2, I2, r2, q2⟩ => ⟨x :: xs, H2, I2, .cons r1 r2, q2⟩
def tTup (t : TA) : TE := fun σ H Q => t σ H fun xs H1 => xs.length ≤ sizeLine ∧ ∀ p, H1 p = none → Q (.ref p) (upd H1 p (.tup xs))
def tLst (t : TA) : TE := fun σ H Q => t σ H fun xs H1 => xs.length ≤ sizeLine ∧ ∀ p, H1 p = none → Q (.ref p) (upd H1 p (.lst xs))
theorem pe_tup {x1} (h : PA X es t) : PE X (.Tuple es x1 pos) (tTup t) := by
  intro pins s σ H Q I hq
  refine wpAny_Tuple_spliced (thn (h pos pins s σ H _ I hq) fun us s1 ⟨xs, H1, I1, r, z, q⟩ => ⟨by rw [← r.length]; exact z, ?_⟩)
  have hf : H1 s1.heap.objs.size = none := I1.hok.fresh (Nat.le_refl _)
  refine ⟨.ref s1.heap.objs.size, upd H1 s1.heap.objs.size (.tup xs), I1.laid (t' := s1.toks) (fun b u e => Heap.get?_push_of_some _ e) (Nat.le_refl _) ?_, rfl, q _ hf⟩
  exact ⟨z, us, r, ⟨_, Heap.get?_push_size _ rfl, rfl, _, rfl⟩⟩
theorem pe_lst (h : PA X es t) : PE X (.List es pos) (tLst t) := by
  intro pins s σ H Q I hq
  refine wpAny_List_spliced (thn (h pos pins s σ H _ I hq) fun us s1 ⟨xs, H1, I1, r, z, q⟩ => ⟨by rw [← r.length]; exact z, ?_⟩)
  have hf : H1 s1.heap.objs.size = none := I1.hok.fresh (Nat.le_refl _)
  refine ⟨.ref s1.heap.objs.size, upd H1 s1.heap.objs.size (.lst xs), I1.laid (t' := s1.toks) (fun b u e => Heap.get?_push_of_some _ e) (Nat.le_refl _) ?_, rfl, q _ hf⟩
  exact ⟨z, us, 0, r, Heap.get?_push_size _ rfl⟩
end
abbrev Sp := List V → Hp → VK → XK → Prop
abbrev CXT := List Env → Hp → Shared → XK → Value → Shared → Prop
structure Env0 (P : Program) (w : World) (K : PySem.W.Frag) (mg : Str → Option Value) (base : Heap) (A : Around) (outer : List Env) (s : Shared) (H : Hp) : Prop where
  frames : A.frames = some outer
  mod : Mod K mg base
  bs : ∀ b o, base.get? b = some o → s.heap.get? b = some o ∧ H b = none
  bsz : base.objs.size ≤ s.heap.objs.size
  funs : s.heap.FunFrames base outer
  frf : ∀ b ∈ frs outer, H b = none
  hok : HOk P w H s.heap
  bare : AllBare s.gens
def CE (outer : List Env) (P : Program) (w : World) (H : Hp) (s : Shared) (Q : VK) (u : Value) (s' : Shared) : Prop :=
  ∃ v H', s'.os = s.os ∧ AllBare s'.gens ∧ Un (frs outer) [] H H' s.heap s'.heap ∧ HOk P w H' s'.heap ∧ RelV v u ∧ Q v H'
def CR (CX : CXT) (outer : List Env) (P : Program) (w : World) (H : Hp) (s : Shared) (Q : VK) (E : XK) (r : Result) (s' : Shared) : Prop :=
  match r with
  | .ok (.ret u) => CE outer P w H s Q u s'
  | .ok _ => False
  | .error e => CX outer H s E e s'
structure FnOk (P : Program) (w : World) (K : PySem.W.Frag) (mg : Str → Option Value) (base : Heap) (CX : CXT) (k : Nat) (f : Addr) (fd : FuncData) (ps : List Str) (sp : Sp) : Prop where
  len : ∀ vs H Q E, sp vs H Q E → vs.length = ps.length
  run : ∀ (A : Around) (outer : List Env) (s : Shared) (H : Hp) (args : Args) (us : List Value) (vs : List V) (Q : VK) (E : XK), Room k A → Env0 P w K mg base A outer s H → BindsTo s fd args (ps.zip us) → Vals vs us → sp vs H Q E →
    codeAny (model P w) A (.call (.ref f) args) (CR CX outer P w H s Q E) s
theorem FnOk.mono {P : Program} {w : World} {K : PySem.W.Frag} {mg : Str → Option Value} {base : Heap} {CX : CXT} {j k : Nat} {f : Addr} {fd : FuncData} {ps : List Str} {sp : Sp} (F : FnOk P w K mg base CX j f fd ps sp) (h : j ≤ k) :
    FnOk P w K mg base CX k f fd ps sp := ⟨F.len, fun A outer s H args us vs Q E hr => F.run A outer s H args us vs Q E (hr.mono h)⟩
theorem FnOk.imp {P : Program} {w : World} {K : PySem.W.Frag} {mg : Str → Option Value} {base : Heap} {CX : CXT} {k : Nat} {f : Addr} {fd : FuncData} {ps : List Str} {sp sp' : Sp} (F : FnOk P w K mg base CX k f fd ps sp)
    (h : ∀ vs H Q E, sp' vs H Q E → sp vs H Q E) : FnOk P w K mg base CX k f fd ps sp' :=
  ⟨fun vs H Q E q => F.len vs H Q E (h _ _ _ _ q), fun A outer s H args us vs Q E hr he hb hv hs => F.run A outer s H args us vs Q E hr he hb hv (h _ _ _ _ hs)⟩
theorem Env0.make {P : Program} {w : World} {K : PySem.W.Frag} {mg : Str → Option Value} {base : Heap} {A : Around} {outer : List Env} {s : Shared} {H : Hp} (e : Env0 P w K mg base A outer s H) (C : Addr) (us : List Value) (kw : List (Str × Value)) :
    Env0 P w K mg base (A.under (.builtin "type.__call__" ⟨.ref C :: us, kw⟩)) outer s H := ⟨by first | exact e.frames | (simpa [Around.under, Code.envs, Code.isFrame, pushEnvs] using e.frames), e.mod, e.bs, e.bsz, e.funs, e.frf, e.hok, e.bare⟩
theorem Env0.in1 {P : Program} {w : World} {K : PySem.W.Frag} {mg : Str → Option Value} {base : Heap} {A : Around} {outer : List Env} {s : Shared} {H : Hp} (e : Env0 P w K mg base A outer s H) :
    Env0 P w K mg base A.in1 outer s H := ⟨e.frames, e.mod, e.bs, e.bsz, e.funs, e.frf, e.hok, e.bare⟩
section
variable {X : Cx} {pins : List (Addr × Obj)} {σ : St} {H : Hp} {s s' : Shared}
theorem Inv.env0 (I : Inv X pins σ H s) : Env0 X.prog X.w X.K X.mg X.base X.A X.stack s H :=
  ⟨I.ok.frames, I.ok.mod, I.bs, Nat.le_trans I.ok.bsz I.sz, I.stack, I.stkFree, I.hok, I.bare⟩
theorem Inv.after {Q : VK} {u : Value} (I : Inv X pins σ H s) (h : CE X.stack X.prog X.w H s Q u s') : EP X pins σ Q u s' := by
  obtain ⟨v, H', os, bare, un, hok, r, q⟩ := h
  obtain ⟨hh, g, d, t, os'⟩ := s'
  obtain rfl : os' = s.os := os
  exact ⟨v, H', I.call (h' := hh) (g' := g) (d' := d) (t' := t) (ch := []) un hok bare (fun b z => absurd z (by simp)), r, q⟩
end
def tCall (sp : Sp) (dvs : List V) (E : XK) (t : TA) : TE := fun σ H Q => t σ H fun vs H1 => sp (vs ++ dvs) H1 Q E
def tMeth (C : Addr) (m : Str) (sp : Sp) (dvs : List V) (E : XK) (ta : TE) (t : TA) : TE := fun σ H Q => ta σ H fun x H1 => ∃ a dx fs, x = .ref a ∧ H1 a = some (.ins C dx fs) ∧ fs.lookup m = none ∧
  t σ H1 fun vs H2 => sp (x :: (vs ++ dvs)) H2 Q E
def tMake (C : Addr) (sp : Sp) (dvs : List V) (E : XK) (t : TA) : TE := fun σ H Q => t σ H fun vs H1 => ∀ x dx, H1 x = none → H1 dx = none → dx ≠ x →
  sp (.ref x :: (vs ++ dvs)) (upd (upd H1 dx (.own x)) x (.ins C dx [])) (fun v H2 => v = .non ∧ Q (.ref x) H2) E
def Binds (K : PySem.W.Frag) (fd : FuncData) (ps : List Str) (ds : List Value) : Prop :=
  ∀ (s : Shared) (us : List Value), K.In s.heap → (us ++ ds).length = ps.length → BindsTo s fd ⟨us, []⟩ (ps.zip (us ++ ds))
theorem Binds.all {K : PySem.W.Frag} {fd : FuncData} {ps : List Str} (h : ∀ us : List Value, us.length = ps.length → bindArgs fd ⟨us, []⟩ = pure (ps.zip us)) : Binds K fd ps [] := fun s us _ hl => by
  rw [List.append_nil] at hl ⊢
  exact .of_eq (h us hl)
def Passes (CX : CXT) (X : Cx) (E : XK) : Prop := ∀ (pins : List (Addr × Obj)) (σ : St) (H : Hp) (s : Shared) (e : Value) (s' : Shared), Inv X pins σ H s → CX X.stack H s E e s' → X.xe e s'
section
variable {X : Cx} {CX : CXT} {k : Nat} {f C : Addr} {fd : FuncData} {ps : List Str} {sp : Sp} {dvs : List V} {ds : List Value} {E : XK} {x m : Str} {p pos apos : Pos} {e o : Expr} {es : List Expr} {ta : TE} {t : TA}
theorem run_fn {pins : List (Addr × Obj)} {σ : St} {H : Hp} {s : Shared} {Q : VK} {us : List Value} {vs : List V} (F : FnOk X.prog X.w X.K X.mg X.base CX k f fd ps sp) (hr : Room k X.A) (hb : Binds X.K fd ps ds) (hd : Vals dvs ds) (hx : Passes CX X E)
    (I : Inv X pins σ H s) (r : Vals vs us) (h : sp (vs ++ dvs) H Q E) : wpAny (model X.prog X.w) X.A (call (.ref f) us) (EP X pins σ Q) X.xe s := by
  have r2 : Vals (vs ++ dvs) (us ++ ds) := r.append hd
  have hl : (us ++ ds).length = ps.length := by rw [← r2.length]; exact F.len _ _ _ _ h
  refine wpAny_call (codeAny_mono (F.run X.A X.stack s H ⟨us, []⟩ (us ++ ds) (vs ++ dvs) Q E hr I.env0 (hb s us I.kIn hl) r2 h) fun r s' hq => ?_)
  cases r with
  | error e => exact hx pins σ H s e s' I hq
  | ok fl =>
    cases fl with
    | ret u => exact I.after hq
    | next => exact False.elim hq
    | brk => exact False.elim hq
    | cont => exact False.elim hq
theorem pe_call (F : FnOk X.prog X.w X.K X.mg X.base CX k f fd ps sp) (hr : Room k X.A) (hg : Gl X x) (hm : X.mg x = some (.ref f)) (hk : PySem.W.keepIn X.K (.ref f) = true) (hb : Binds X.K fd ps ds) (hd : Vals dvs ds) (hx : Passes CX X E)
    (ha : PA X (e :: es) t) (hdb : (x == ("__debug__" : Str)) = false := by decide) (he : starEach (e :: es) X.env = (false, eval e X.env) :: starEach es X.env := by rfl) (hpl : (backTo pos (starEach es X.env)).any (·.1) = false := by rfl) :
    PE X (.Call (.Name x p) (e :: es) [] pos) (tCall sp dvs E t) := by
  intro pins s σ H Q I h
  refine wpAny_Call_Name_kw (ld_glob I hg hm ?_ hdb)
  refine PySem.W.callWith_K (h₀ := X.base) I.ok.mod.kin hk (thn (ha pos pins s σ H _ I h) fun us s1 ⟨vs, H1, I1, r, q⟩ => ⟨I1.kIn, ?_⟩) he hpl
  exact run_fn F hr hb hd hx I1 r q
theorem pe_meth {pl : Sem Bool} (he : PE X o ta) (c : Cls X.K C) (hm : Meth X.K C m f) (F : FnOk X.prog X.w X.K X.mg X.base CX k f fd ps sp) (hr : Room k X.A) (hb : Binds X.K fd ps ds) (hd : Vals dvs ds) (hx : Passes CX X E) (ha : PA X (e :: es) t)
    (hst : starEach (e :: es) X.env = (false, eval e X.env) :: starEach es X.env := by rfl) (hpl : (backTo pos (starEach es X.env)).any (·.1) = false := by rfl)
    (ht : eval (.Call (.Attribute o m apos) (e :: es) [] pos) X.env = (do
      let ov ← eval o X.env
      standAt apos.atName
      let (f, first) ← holding [ov] (getMethod ov m pl)
      callWith pos f first (backTo pos (starEach (e :: es) X.env)) (backToKw pos (keywordEach [] X.env))) := by rfl) :
    PE X (.Call (.Attribute o m apos) (e :: es) [] pos) (tMeth C m sp dvs E ta t) := by
  intro pins s σ H Q I h
  refine PySem.W.methodCall_KW (pl := pl) (thn (he pins s σ H _ I h) fun u s1 ⟨x, H1, I1, rx, a, dx, fs, ex, ea, l, q⟩ => ?_) ht
  subst ex
  obtain rfl : u = Value.ref a := rx
  refine getmeth_ok I1 ea c hm l ?_
  refine PySem.W.callWith_K (first := [.ref a]) (h₀ := X.base) I.ok.mod.kin hm.kp (thn (ha pos pins s1 σ H1 _ I1 q) fun us s2 ⟨vs, H2, I2, r, q2⟩ => ⟨I2.kIn, ?_⟩) hst hpl
  exact run_fn (us := .ref a :: us) (vs := .ref a :: vs) F hr hb hd hx I2 (.cons rfl r) q2
structure Mk (K : PySem.W.Frag) (C f : Addr) : Prop where
  makes : PySem.W.makesIn K C = true
  init : PySem.W.findIn K (.ref C) "__init__" = some (some (.ref f))
  fn : PySem.W.isFn K (.ref f) = true
  kp : PySem.W.keepIn K (.ref C) = true
theorem run_make {pins : List (Addr × Obj)} {σ : St} {H : Hp} {s : Shared} {Q : VK} {us : List Value} {vs : List V} (M : Mk X.K C f) (F : FnOk X.prog X.w X.K X.mg X.base CX k f fd ps sp) (hr : Room (k + 1) X.A) (hb : Binds X.K fd ps ds) (hd : Vals dvs ds)
    (hx : Passes CX X E) (I : Inv X pins σ H s) (r : Vals vs us)
    (h : ∀ x dx, H x = none → H dx = none → dx ≠ x → sp (.ref x :: (vs ++ dvs)) (upd (upd H dx (.own x)) x (.ins C dx [])) (fun v H2 => v = .non ∧ Q (.ref x) H2) E) :
    wpAny (model X.prog X.w) X.A (call (.ref C) us) (EP X pins σ Q) X.xe s := by
  have hq := h (s.heap.objs.size + 1) s.heap.objs.size (I.hok.fresh (Nat.le_succ _)) (I.hok.fresh (Nat.le_refl _)) (Nat.ne_of_lt (Nat.lt_succ_self _))
  have I2 := Inv.made (C := C) I
  have r2 : Vals (V.ref (s.heap.objs.size + 1) :: (vs ++ dvs)) (Value.ref (s.heap.objs.size + 1) :: (us ++ ds)) := .cons rfl (r.append hd)
  have hl : (Value.ref (s.heap.objs.size + 1) :: us ++ ds).length = ps.length := by
    have e := r2.length
    rw [F.len _ _ _ _ hq] at e
    exact e.symm
  refine wpAny_call (make_map (f := f) I.kIn M.makes M.init (beq_iff_eq.mp M.fn) (codeAny_mono (F.run _ X.stack _ _ ⟨Value.ref (s.heap.objs.size + 1) :: us, []⟩ (Value.ref (s.heap.objs.size + 1) :: (us ++ ds)) _ _ E (hr.make C us [])
    (I2.env0.make C us []) (hb _ (Value.ref (s.heap.objs.size + 1) :: us) I2.kIn hl) r2 hq) fun r s' hq' => ?_))
  cases r with
  | error e => exact hx pins σ _ _ e s' I2 hq'
  | ok fl =>
    cases fl with
    | ret u =>
      obtain ⟨v, H', I3, rv, ev, q3⟩ := I2.after hq'
      subst ev
      exact ⟨rv, ⟨V.ref (s.heap.objs.size + 1), H', I3, rfl, q3⟩⟩
    | next => exact False.elim hq'
    | brk => exact False.elim hq'
    | cont => exact False.elim hq'
theorem pe_make (M : Mk X.K C f) (F : FnOk X.prog X.w X.K X.mg X.base CX k f fd ps sp) (hr : Room (k + 1) X.A) (hg : Gl X x) (hm : X.mg x = some (.ref C)) (hb : Binds X.K fd ps ds) (hd : Vals dvs ds) (hx : Passes CX X E)
    (ha : PA X (e :: es) t) (hdb : (x == ("__debug__" : Str)) = false := by decide) (he : starEach (e :: es) X.env = (false, eval e X.env) :: starEach es X.env := by rfl) (hpl : (backTo pos (starEach es X.env)).any (·.1) = false := by rfl) :
    PE X (.Call (.Name x p) (e :: es) [] pos) (tMake C sp dvs E t) := by
  intro pins s σ H Q I h
  refine wpAny_Call_Name_kw (ld_glob I hg hm ?_ hdb)
  refine PySem.W.callWith_K (h₀ := X.base) I.ok.mod.kin M.kp (thn (ha pos pins s σ H _ I h) fun us s1 ⟨vs, H1, I1, r, q⟩ => ⟨I1.kIn, ?_⟩) he hpl
  exact run_make M F hr hb hd hx I1 r q
end
section
variable {X : Cx} {CX : CXT} {k : Nat} {f C : Addr} {fd : FuncData} {ps ks : List Str} {sp : Sp} {E : XK} {x m : Str} {p pos apos kpos : Pos} {e o : Expr} {es : List Expr} {kws : List Keyword} {te ta : TE} {t tk : TA} {nm : Option Str}
structure KBinds (K : PySem.W.Frag) (fd : FuncData) (ps ks : List Str) (g : List Value → List Value → List Value) (gV : List V → List V → List V) : Prop where
  to : ∀ (s : Shared) (us ws : List Value), K.In s.heap → (g us ws).length = ps.length → BindsTo s fd ⟨us, ks.zip ws⟩ (ps.zip (g us ws))
  rel : ∀ {vs : List V} {us : List Value} {zs : List V} {ws : List Value}, Vals vs us → Vals zs ws → Vals (gV vs zs) (g us ws)
variable {g : List Value → List Value → List Value} {gV : List V → List V → List V}
end
structure FnScope (N P : List Str) (sc : Scope) : Prop where
  kind : sc.kind = .function
  co : sc.isCoroutine = false
  gen : sc.isGenerator = false
  nd : N.Nodup
  pre : N.take P.length = P
  par : ∀ x ∈ P, sc.names.lookup x = some .local ∨ sc.names.lookup x = some .cell
  nofree : ∀ y ∈ sc.names, y.2 ≠ .free
theorem bindL_out {kindOf : Str → Option NameKind} {x : Str} : ∀ {binds : List (Str × Value)} {m : Str → Option Value}, (∀ v, (x, v) ∉ binds) → bindL kindOf binds m x = m x
  | [], _, _ => rfl
  | (n, v) :: r, m, h => by
    unfold bindL
    rw [bindL_out fun w hw => h w (List.mem_cons_of_mem _ hw)]
    split
    · have : x ≠ n := by rintro rfl; exact h v List.mem_cons_self
      simp [this]
    · rfl
theorem bindC_out {kindOf : Str → Option NameKind} {x : Str} : ∀ {binds : List (Str × Value)} {m : Str → Option Value}, (∀ v, (x, v) ∉ binds) → bindC kindOf binds m x = m x
  | [], _, _ => rfl
  | (n, v) :: r, m, h => by
    unfold bindC
    rw [bindC_out fun w hw => h w (List.mem_cons_of_mem _ hw)]
    split
    · rfl
    · have : x ≠ n := by rintro rfl; exact h v List.mem_cons_self
      simp [this]
theorem bindL_get {kindOf : Str → Option NameKind} {x : Str} {v : Value} : ∀ {P : List Str} {vs : List Value} {i : Nat} {m : Str → Option Value}, P.Nodup → P[i]? = some x → vs[i]? = some v → kindOf x = some .local →
    bindL kindOf (P.zip vs) m x = some v
  | [], _, _, _, _, h, _, _ => by simp at h
  | _ :: _, [], _, _, _, _, h, _ => by simp at h
  | p :: P, w :: vs, 0, m, nd, h1, h2, hk => by
    simp at h1 h2; subst h1; subst h2
    show bindL kindOf ((p, w) :: P.zip vs) m p = _
    unfold bindL
    rw [bindL_out fun v hv => (List.nodup_cons.mp nd).1 (List.of_mem_zip hv).1, if_pos hk]
    simp
  | p :: P, w :: vs, i + 1, m, nd, h1, h2, hk => by
    show bindL kindOf ((p, w) :: P.zip vs) m x = _
    unfold bindL
    exact bindL_get (i := i) (List.nodup_cons.mp nd).2 (by simpa using h1) (by simpa using h2) hk
theorem bindC_get {kindOf : Str → Option NameKind} {x : Str} {v : Value} : ∀ {P : List Str} {vs : List Value} {i : Nat} {m : Str → Option Value}, P.Nodup → P[i]? = some x → vs[i]? = some v → kindOf x ≠ some .local →
    bindC kindOf (P.zip vs) m x = some v
  | [], _, _, _, _, h, _, _ => by simp at h
  | _ :: _, [], _, _, _, _, h, _ => by simp at h
  | p :: P, w :: vs, 0, m, nd, h1, h2, hk => by
    simp at h1 h2; subst h1; subst h2
    show bindC kindOf ((p, w) :: P.zip vs) m p = _
    unfold bindC
    rw [bindC_out fun v hv => (List.nodup_cons.mp nd).1 (List.of_mem_zip hv).1, if_neg hk]
    simp
  | p :: P, w :: vs, i + 1, m, nd, h1, h2, hk => by
    show bindC kindOf ((p, w) :: P.zip vs) m x = _
    unfold bindC
    exact bindC_get (i := i) (List.nodup_cons.mp nd).2 (by simpa using h1) (by simpa using h2) hk
def start (N : List Str) (vs : List V) : St := vs.map some ++ List.replicate (N.length - vs.length) none
def cxOf (CX : CXT) (P : Program) (w : World) (K : PySem.W.Frag) (mg : Str → Option Value) (base : Heap) (N : List Str) (qual : Str) (scope : Scope) (f : Addr) (cd : Value) (A : Around) (outer : List Env) (s : Shared) (H : Hp) (E : XK) : Cx where
  prog := P
  w := w
  K := K
  mg := mg
  base := base
  A := A.deeper (envOfC qual scope s.heap.objs.size f cd)
  N := N
  s₀ := s
  H₀ := H
  env := envOfC qual scope s.heap.objs.size f cd
  outer := outer
  stack := envOfC qual scope s.heap.objs.size f cd :: outer
  ex := []
  calm := true
  fn := fun _ => true
  pn := []
  xe := fun e s' => wpAny (model P w) (A.deeper (envOfC qual scope s.heap.objs.size f cd)) (leaving (envOfC qual scope s.heap.objs.size f cd) e) (fun _ s'' => CX outer H s E e s'') (fun e' s'' => CX outer H s E e' s'') s'
theorem cell_has {sc : Scope} {n : Nat} {x : Str} (h : sc.names.lookup x = some .cell) : ∃ c, (cellsFrom n sc.names []).lookup x = some c := by
  have q := PySem.W.cellsFrom_some sc.names n [] (.inl h)
  exact Option.isSome_iff_exists.mp q
theorem inv_start {CX : CXT} {P : Program} {w : World} {K : PySem.W.Frag} {mg : Str → Option Value} {base : Heap} {N ps : List Str} {qual : Str} {scope : Scope} {f : Addr} {cd : Value} {A : Around} {outer : List Env} {s s1 : Shared} {H : Hp} {E : XK} {us : List Value} {vs : List V}
    (S : FnScope N ps scope) (hd : A.handled = none) (e0 : Env0 P w K mg base A outer s H) (hl : vs.length = ps.length) (r : Vals vs us)
    (x : InCallC s s.heap.objs.size (bindL (envOfC qual scope s.heap.objs.size f cd).kindOf (ps.zip us) fun _ => none) (cellsFrom (s.heap.objs.size + 1) scope.names []) (bindC (envOfC qual scope s.heap.objs.size f cd).kindOf (ps.zip us) fun _ => none) s1) :
    Inv (cxOf CX P w K mg base N qual scope f cd A outer s H E) [] (start N vs) H s1 := by
  have hpl : ps.length ≤ N.length := by have := congrArg List.length S.pre; rw [List.length_take] at this; omega
  obtain ⟨h1, tk, rfl, hk⟩ := x.done
  have noA : ∀ b : Addr, b ∉ (cxOf CX P w K mg base N qual scope f cd A outer s H E).ex := fun b z => absurd (show b ∈ ([] : List Addr) from z) (by simp)
  refine ⟨⟨e0.mod, S.kind, rfl, rfl, Nat.le_refl _, fun y z c h1 h2 => ?_, fun y hy => ?_, fun y c _ h => ?_, fun _ => hd, Around.frames_deeper e0.frames, .inr ⟨rfl, rfl⟩, fun b z => absurd z (noA b), e0.bs, e0.bsz, fun b _ _ => noA b, fun b z => absurd z (noA b), e0.funs, e0.frf⟩,
    rfl, e0.bare, Un.kept hk, ⟨_, x.toInCall.ns, fun i y v h1 h2 h3 => ?_⟩, fun y c h => ⟨_, x.cell y c h⟩, e0.hok.fresh (Nat.le_refl _), fun y c h => ?_, fun p hp => absurd (show p ∈ ([] : List (Addr × Obj)) from hp) (by simp), e0.hok.kept hk, ?_⟩
  · exact name_of_addr x.apart (PySem.mem_of_lookup h1) (PySem.mem_of_lookup h2)
  · have hy : scope.names.lookup y = some .cell ∨ scope.names.lookup y = some .free := hy
    rcases hy with hy | hy
    · exact cell_has hy
    · exact absurd rfl (S.nofree _ (PySem.mem_of_lookup hy))
  · exact Nat.le_of_lt (x.above y c (PySem.mem_of_lookup h))
  · have hi : i < vs.length := by
      unfold start at h2
      by_cases hi : i < vs.length
      · exact hi
      · rw [List.getElem?_append_right (by simpa using hi)] at h2
        rw [List.getElem?_replicate] at h2
        split at h2 <;> cases h2
    have ha : vs[i]? = some v := by
      unfold start at h2
      rw [List.getElem?_append_left (by simpa using hi), List.getElem?_map] at h2
      cases e : vs[i]? with
      | none => rw [e] at h2; cases h2
      | some a => rw [e] at h2; cases h2; rfl
    obtain ⟨u, hu, rv⟩ := r.get ha
    have hp : ps[i]? = some y := by
      rw [← S.pre, List.getElem?_take_of_lt (by omega)]; exact h1
    have ndP : ps.Nodup := by rw [← S.pre]; exact S.nd.sublist (List.take_sublist _ _)
    refine ⟨u, rv, ?_⟩
    rcases S.par y (List.mem_of_getElem? hp) with k | k
    · exact .inl ⟨k, bindL_get ndP hp hu k⟩
    · obtain ⟨c, e⟩ := cell_has (n := s.heap.objs.size + 1) k
      refine .inr ⟨.inl k, c, e, ?_⟩
      have q := x.cell y c e
      rw [bindC_get ndP hp hu (by show scope.names.lookup y ≠ _; rw [k]; decide)] at q
      exact q
  · exact e0.hok.fresh (Nat.le_of_lt (x.above y c (PySem.mem_of_lookup h)))
  · unfold start
    show _ = N.length
    rw [List.length_append, List.length_map, List.length_replicate]
    omega
theorem fn_of {CX : CXT} {P : Program} {w : World} {K : PySem.W.Frag} {mg : Str → Option Value} {base : Heap} {k : Nat} {f : Addr} {name qual : Str} {params : Arguments} {body : List Stmt} {scope : Scope} {dV kV doc pm cdv ct oc : Value} {an od : Option Addr}
    {osl : Array (Option Value)} {N ps : List Str} {sp : Sp} (lk : K.lookup f = some ⟨oc, od, .func (PySem.W.fnOf name qual params body scope dV kV doc pm an cdv ct), osl⟩) (hcd : PySem.W.codeIn K cdv qual = true) (S : FnScope N ps scope)
    (len : ∀ vs H Q E, sp vs H Q E → vs.length = ps.length)
    (hbody : ∀ (A : Around) (outer : List Env) (s : Shared) (H : Hp) (vs : List V) (Q : VK) (E : XK), Room k (A.deeper (envOfC qual scope s.heap.objs.size f cdv)) → sp vs H Q E →
      ∃ t, PSs (cxOf CX P w K mg base N qual scope f cdv A outer s H E) body t ∧ t { nx := fun _ H' => Q .non H', rt := Q } (start N vs) H) :
    FnOk P w K mg base CX (k + 1) f (PySem.W.fnOf name qual params body scope dV kV doc pm an cdv ct) ps sp := by
  refine ⟨len, fun A outer s H args us vs Q E hr e0 hb r hsp => ?_⟩
  have hl := len _ _ _ _ hsp
  have KX : K.In s.heap := e0.mod.kin.keeps fun b o e => (e0.bs b o e).1
  have lim : s.heap.NoLimit := e0.mod.nolimit.keeps fun b o e => (e0.bs b o e).1
  have hkind : ∀ y ∈ ps.zip us, scope.names.lookup y.1 = some .local ∨ (scope.names.lookup y.1 = some .cell ∧ ((cellsFrom (s.heap.objs.size + 1) scope.names []).lookup y.1).isSome = true) := fun ⟨n, v⟩ hy => by
    rcases S.par n (List.of_mem_zip hy).1 with q | q
    · exact .inl q
    · exact .inr ⟨q, PySem.W.cellsFrom_some _ _ _ (.inl q)⟩
  refine codeAny_call_function hr.depth (KX _ _ lk) rfl S.co S.gen rfl (PySem.W.codeRec_of KX hcd) (hb _ _ _ _ ?_)
  refine wpAny_newFunctionEnv_cells S.kind hkind fun env he s1 x => ?_
  subst he
  refine ⟨lim.keeps x.toInCall.keep, codeAny_func ?_⟩
  obtain ⟨t, ht, hq⟩ := hbody A outer s H vs Q E (hr.deeper _) hsp
  have I : Inv (cxOf CX P w K mg base N qual scope f cdv A outer s H E) [] (start N vs) H s1 := inv_start S hr.hd e0 hl r x
  refine wpAny_mono (ht [] s1 (start N vs) H _ I hq) (fun fl s' hs => ?_) fun e s' hs => hs
  have fin : ∀ {σ' : St} {H' : Hp} {v : V} {u : Value}, Inv (cxOf CX P w K mg base N qual scope f cdv A outer s H E) [] σ' H' s' → RelV v u → Q v H' → CE outer P w H s Q u s' :=
    fun {σ' H' v u} J rv q => ⟨v, H', J.os, J.bare, J.base, J.hok, rv, q⟩
  cases fl with
  | ret u =>
    obtain ⟨v, σ', H', J, rv, q⟩ := hs
    exact fin J rv q
  | next =>
    obtain ⟨σ', H', J, q⟩ := hs
    exact fin (v := V.non) (u := Value.none) J rfl q
  | brk =>
    obtain ⟨_, _, _, q⟩ := hs
    exact False.elim q
  | cont =>
    obtain ⟨_, _, _, q⟩ := hs
    exact False.elim q
end L2
namespace L2
open PySem PySem.Spec PyProof.Rows
section
variable {X : Cx} {x : Str} {p pos : Pos} {e : Expr} {es : List Expr} {t : TA} {id T : String} {r : List V → Hp → VK → Prop}
def tCB (r : List V → Hp → VK → Prop) (t : TA) : TE := fun σ H Q => t σ H fun vs H1 => r vs H1 Q
theorem pe_callB (hc : CallR X (.builtin id) r) (hg : Gl X x) (hm : X.mg x = none) (hv : bootBuiltins x = some (.builtin id)) (ha : PA X (e :: es) t) (hn : x ≠ "__name__" := by decide) (hdb : (x == ("__debug__" : Str)) = false := by decide)
    (he : starEach (e :: es) X.env = (false, eval e X.env) :: starEach es X.env := by rfl) (hpl : (backTo pos (starEach es X.env)).any (·.1) = false := by rfl) : PE X (.Call (.Name x p) (e :: es) [] pos) (tCB r t) := by
  intro pins s σ H Q I h
  refine wpAny_Call_Name_kw (ld_blt I hg hm hv ?_ hn hdb)
  exact PyProof.Rows.callWith_builtin1 (thn (ha pos pins s σ H _ I h) fun us s1 ⟨vs, H1, I1, r1, q1⟩ => hc pins s1 σ H1 vs us Q I1 r1 q1) he hpl
theorem pe_callTy (hc : CallR X (.type T) r) (hg : Gl X x) (hm : X.mg x = none) (hv : bootBuiltins x = some (.type T)) (ha : PA X (e :: es) t) (hn : x ≠ "__name__" := by decide) (hdb : (x == ("__debug__" : Str)) = false := by decide)
    (he : starEach (e :: es) X.env = (false, eval e X.env) :: starEach es X.env := by rfl) (hpl : (backTo pos (starEach es X.env)).any (·.1) = false := by rfl) : PE X (.Call (.Name x p) (e :: es) [] pos) (tCB r t) := by
  intro pins s σ H Q I h
  refine wpAny_Call_Name_kw (ld_blt I hg hm hv ?_ hn hdb)
  exact PyProof.Rows.callWith_type1 (thn (ha pos pins s σ H _ I h) fun us s1 ⟨vs, H1, I1, r1, q1⟩ => hc pins s1 σ H1 vs us Q I1 r1 q1) he hpl
end
end L2
namespace HT
open PySem PyProof.Rows
section
open PySem.SeqAt
open PySem.AutoSeq1 (wpAny_loadPart')
open PySem.MeetsSeq PySem.MeetsSeq2 PySem.MeetsSeq3
end
section
variable {prog : Program} {w : World} {A : Around} {E : Value → Shared → Prop} {s : Shared}
theorem cat_tup {t b : Addr} {vs ws : List Value} {Q : Value → Shared → Prop} (ht : IsTup s.heap t vs.toArray) (hb : IsTup s.heap b ws.toArray) (hv : vs ≠ [])
    (h1 : ws = [] → Q (.ref t) s) (h2 : ws ≠ [] → Q (.ref s.heap.objs.size) { s with heap := s.heap.push { cls := .type "tuple", data := .seq (vs ++ ws).toArray } })
    (hsz : vs.length + ws.length ≤ sizeLine) : wpAny (model prog w) A (binaryOp .Add (.ref t) (.ref b)) Q E s := by
  obtain ⟨⟨cls, dd, data, sl⟩, ho, hc, n, hd⟩ := id ht
  obtain ⟨⟨cls2, dd2, data2, sl2⟩, ho2, hc2, n2, hd2⟩ := id hb
  simp only at hc hd hc2 hd2
  subst hc hd hc2 hd2
  have e : vs.toArray ++ ws.toArray = (vs ++ ws).toArray := by simp
  by_cases hw : ws = []
  · exact concat_meets ⟨_, ho, rfl⟩ ⟨_, ho2, rfl⟩ noFill_tuple_add seq_tuple_add PySem.F.slot_tuple_add PySem.F.entry_tuple_add (PySem.F.args_tuple_add_2 _ _)
      (tuple_addW1 t b vs.toArray ws.toArray n n2 dd dd2 sl sl2 (by simpa using hv) (by simp [hw])) ⟨ho, ho2, h1 hw⟩
  · refine concat_meets ⟨_, ho, rfl⟩ ⟨_, ho2, rfl⟩ noFill_tuple_add seq_tuple_add PySem.F.slot_tuple_add PySem.F.entry_tuple_add (PySem.F.args_tuple_add_2 _ _)
      (tuple_addW2 t b vs.toArray ws.toArray n n2 dd dd2 sl sl2 (by simpa using hv) (by simpa using hw) (by rw [List.size_toArray, List.size_toArray]; exact hsz)) ⟨ho, ho2, ?_⟩
    rw [e]
    exact h2 hw
def sIx (n d : Nat) : Option Int → Nat
  | none => d
  | some v => if v < 0 then (v + (n : Int)).toNat else min v.toNat n
theorem sIx_none (n d : Nat) : sIx n d none = d := rfl
theorem sIx_nat (n d k : Nat) : sIx n d (some (k : Int)) = min k n := by
  show (if (k : Int) < 0 then ((k : Int) + (n : Int)).toNat else min (k : Int).toNat n) = min k n
  rw [if_neg (by omega), Int.toNat_natCast]
theorem sIx_le (n d : Nat) (hd : d ≤ n) (o : Option Int) : sIx n d o ≤ n := by
  cases o with
  | none => exact hd
  | some v =>
    show (if v < 0 then (v + (n : Int)).toNat else min v.toNat n) ≤ n
    by_cases hv : v < 0
    · rw [if_pos hv]; omega
    · rw [if_neg hv]; exact Nat.min_le_right _ _
theorem clip_eq (v : Int) (n d : Nat) : (if v < 0 then max (v + (n : Int)) 0 else min v (n : Int)) = ((sIx n d (some v) : Nat) : Int) := by
  show (if v < 0 then max (v + (n : Int)) 0 else min v (n : Int)) = (((if v < 0 then (v + (n : Int)).toNat else min v.toNat n) : Nat) : Int)
  by_cases hv : v < 0
  · simp only [if_pos hv]; omega
  · simp only [if_neg hv]; omega
theorem adjust_gen (lo hi : Option Int) (n : Nat) : Builtin.Slice.sliceAdjust lo hi 1 (n : Int) = (((sIx n 0 lo : Nat) : Int), ((sIx n n hi : Nat) : Int)) := by
  have h1 : ¬ ((1 : Int) < 0) := by omega
  unfold Builtin.Slice.sliceAdjust
  simp only [h1, if_false]
  refine Prod.ext ?_ ?_
  · cases lo with
    | none => rfl
    | some v => exact clip_eq v n 0
  · cases hi with
    | none => rfl
    | some v => exact clip_eq v n n
theorem places_gen (i j : Nat) : Builtin.Slice.slicePlaces (i : Int) (j : Int) 1 = j - i := by
  unfold Builtin.Slice.slicePlaces
  have h1 : (1 : Int) > 0 := by omega
  simp only [h1, if_true, Int.ediv_one]
  split <;> omega
theorem slicePart_ {v : Value} {o : Option Int} {Q : Option Int → Shared → Prop} (p : IsPart v o) (h : Q o s) : wpAny (model prog w) A (Builtin.Slice.slicePartIndex v) Q E s := by
  cases p with
  | none => exact slicePart_none h
  | int i t => exact slicePart_int h
theorem sliceApplied_gen {sl : Addr} {vl vu : Value} {lo hi : Option Int} {n : Nat} {Q : Int × Int × Nat → Shared → Prop} (hs : s.heap.IsSliceOf sl vl vu .none) (pl : IsPart vl lo) (pu : IsPart vu hi)
    (h : Q (((sIx n 0 lo : Nat) : Int), 1, sIx n n hi - sIx n 0 lo) s) : wpAny (model prog w) A (Builtin.Slice.sliceApplied (.ref sl) (pure (n : Int))) Q E s := by
  obtain ⟨os, hos, hcs, hds⟩ := id hs
  unfold Builtin.Slice.sliceApplied Builtin.Slice.sliceFields
  refine wpAny_bind (wpAny_bind (wpAny_field hos hds (x := vl) rfl (wpAny_bind (wpAny_field hos hds (x := vu) rfl (wpAny_bind (wpAny_field hos hds (x := .none) rfl (wpAny_pure ?_)))))))
  refine wpAny_bind (slicePart_none ?_)
  show wpAny _ _ (if ((1 : Int) == 0) = true then _ else _) _ _ s
  rw [if_neg (by decide)]
  refine wpAny_bind (slicePart_ pl (wpAny_bind (slicePart_ pu (wpAny_bind (wpAny_pure ?_)))))
  show wpAny _ _ (match Builtin.Slice.sliceAdjust lo hi 1 (n : Int) with | (lo, hi) => pure (lo, (1 : Int), Builtin.Slice.slicePlaces lo hi 1)) _ _ s
  rw [adjust_gen lo hi n]
  show wpAny _ _ (pure (((sIx n 0 lo : Nat) : Int), (1 : Int), Builtin.Slice.slicePlaces ((sIx n 0 lo : Nat) : Int) ((sIx n n hi : Nat) : Int) 1)) _ _ s
  rw [places_gen]
  exact wpAny_pure h
theorem pick_gen (xs : Array Value) (i k : Nat) : ((List.range k).filterMap fun (m : Nat) => xs[((i : Int) + (m : Int) * 1).toNat]?).toArray = ((xs.toList.drop i).take k).toArray := by
  have e : (fun (m : Nat) => xs[((i : Int) + (m : Int) * 1).toNat]?) = fun m => xs[i + m]? := by
    funext m
    have : ((i : Int) + (m : Int) * 1).toNat = i + m := by omega
    rw [this]
  rw [e]
  have := pick_run xs i k
  rw [List.filterMap_map] at this
  have e2 : ((fun x => xs[x]?) ∘ fun x => i + x) = fun m => xs[i + m]? := rfl
  rw [e2] at this
  rw [this]
theorem getItem_tuple_cut {t sl : Addr} {items : Array Value} {vl vu : Value} {lo hi : Option Int} {Q : Value → Shared → Prop} (ht : IsTup s.heap t items) (hs : s.heap.IsSliceOf sl vl vu .none) (pl : IsPart vl lo) (pu : IsPart vu hi)
    (hw : ¬ (sIx items.size 0 lo = 0 ∧ sIx items.size items.size hi = items.size))
    (h : Q (.ref s.heap.objs.size) { s with heap := s.heap.push { cls := .type "tuple", data := .seq ((items.toList.drop (sIx items.size 0 lo)).take (sIx items.size items.size hi - sIx items.size 0 lo)).toArray } })
    (hsz : items.size ≤ sizeLine) : wpAny (model prog w) A (getItem (.ref t) (.ref sl)) Q E s := by
  have htake : sizeOk (.seq ((items.toList.drop (sIx items.size 0 lo)).take (sIx items.size items.size hi - sIx items.size 0 lo)).toArray) := by
    show ((items.toList.drop (sIx items.size 0 lo)).take (sIx items.size items.size hi - sIx items.size 0 lo)).toArray.size ≤ sizeLine
    rw [List.size_toArray, List.length_take, List.length_drop, Array.length_toList]
    omega
  have hj : sIx items.size items.size hi ≤ items.size := sIx_le _ _ (Nat.le_refl _) hi
  obtain ⟨os, hos, hcs, hds⟩ := id hs
  have hTs : s.TypeIs (.ref sl) "slice" := ⟨os, hos, hcs⟩
  unfold getItem
  try with_reducible refine wpAny_holding ?_
  first | refine wpAny_bind (wpAny_pure ?_) | skip
  refine wpAny_bind (wpAny_sequenceKey ht.typeIs (by decide) ?_)
  refine wpAny_bind (wpAny_callSpecial?_slot (name := Str.ofString "__getitem__") ht.typeIs PyProof.Rows.slot_tuple_getitem
    (wpAny_call_entry PyProof.Rows.slot_tuple_getitem ht.typeIs entry_tuple_getitem ?_ (args_tuple_getitem _ _)))
  show wpAny _ _ (Builtin.Tuple.tupleItemsOf (.ref t) >>= _) _ _ s
  refine wpAny_bind (tupleItemsOf_ ht ?_)
  refine wpAny_bind (wpAny_typeOf hTs ?_)
  rw [if_pos (by decide)]
  refine wpAny_bind (sliceApplied_gen hs pl pu ?_)
  have hno : ¬ ((((sIx items.size 0 lo : Nat) : Int) == 0 && (1 : Int) == 1 && (sIx items.size items.size hi - sIx items.size 0 lo) == items.size) = true) := by
    intro q
    rw [Bool.and_eq_true, Bool.and_eq_true] at q
    have q1 : ((sIx items.size 0 lo : Nat) : Int) = 0 := eq_of_beq q.1.1
    have q2 : sIx items.size items.size hi - sIx items.size 0 lo = items.size := eq_of_beq q.2
    exact hw ⟨by omega, by omega⟩
  show wpAny _ _ (if (((sIx items.size 0 lo : Nat) : Int) == 0 && (1 : Int) == 1 && (sIx items.size items.size hi - sIx items.size 0 lo) == items.size) = true then _ else _) _ _ s
  rw [if_neg hno, pick_gen]
  first
    | exact wpAny_bind (m := Builtin.Tuple.tupleExact _) (wpAny_newObj_type (wpAny_pure ⟨_, rfl, wpAny_pure h⟩) htake)
    | exact wpAny_bind (m := Builtin.Tuple.tupleExact _) (wpAny_newObj_type (wpAny_bind (wpAny_pure (wpAny_pure ⟨_, rfl, wpAny_pure h⟩))) htake)
    | exact wpAny_bind (wpAny_bind (m := Builtin.Tuple.tupleExact _) (wpAny_newObj_type (wpAny_pure (wpAny_pure ⟨_, rfl, wpAny_pure h⟩)) htake))
    | exact wpAny_bind (wpAny_bind (m := Builtin.Tuple.tupleExact _) (wpAny_newObj_type (wpAny_pure ⟨_, rfl, wpAny_pure h⟩) htake))
end
end HT
namespace L2
open PySem PySem.Spec PyProof.Rows
abbrev TO := St → Hp → (Option Int → Hp → Prop) → Prop
def PO (X : Cx) (e : Option Expr) (t : TO) : Prop :=
  ∀ (pins : List (Addr × Obj)) (s : Shared) (σ : St) (H : Hp) (Q : Option Int → Hp → Prop), Inv X pins σ H s → t σ H Q →
    wpAny (model X.prog X.w) X.A (evalPart e X.env) (fun u s' => ∃ o H', Inv X pins σ H' s' ∧ IsPart u o ∧ Q o H') X.xe s
def tNoPart : TO := fun _ H Q => Q none H
def tPart (t : TE) : TO := fun σ H Q => t σ H fun x H1 => ∃ i, x = .int i ∧ Q (some i) H1
theorem intsAre_of {ns : List Int} : ∀ {us : List Value}, Vals (ns.map V.int) us → IntsAre us ns := by
  induction ns with
  | nil => intro us r; rw [List.map_nil] at r; cases r; exact .nil
  | cons n ns ih =>
    intro us r
    rw [List.map_cons] at r
    cases r with
    | cons r1 r2 =>
      obtain ⟨t, e⟩ := r1
      subst e
      exact .cons n t (ih r2)
section
variable {X : Cx} {e : Expr} {te : TE} {lo hi : Option Expr} {tl th : TO} {pos p2 : Pos}
theorem po_none : PO X none tNoPart := by
  intro pins s σ H Q I h
  rw [evalPart_none]
  exact wpAny_pure ⟨none, H, I, .none, h⟩
theorem po_some (h : PE X e te) : PO X (some e) (tPart te) := by
  intro pins s σ H Q I hw
  rw [evalPart_some]
  refine thn (h pins s σ H _ I hw) fun u s1 ⟨x, H1, I1, r1, q1⟩ => ?_
  obtain ⟨i, rfl, q⟩ := q1
  obtain ⟨t, rfl⟩ := r1
  exact ⟨some i, H1, I1, .int i t, q⟩
def SlR (X : Cx) (r : V → Option Int → Option Int → Hp → VK → Prop) : Prop :=
  ∀ (pins : List (Addr × Obj)) (s : Shared) (σ : St) (H : Hp) (x : V) (v vl vu : Value) (lo hi : Option Int) (sl : Addr) (Q : VK), Inv X pins σ H s → RelV x v → s.heap.IsSliceOf sl vl vu .none → IsPart vl lo → IsPart vu hi → r x lo hi H Q →
    ∃ T id, typeLookup (.type T) "__getitem__" = pure (some (.builtin id)) ∧ s.TypeIs v T ∧ wpAny (model X.prog X.w) X.A (getItem v (.ref sl)) (EP X pins σ Q) X.xe s
theorem SlR.or {r r' : V → Option Int → Option Int → Hp → VK → Prop} (h : SlR X r) (h' : SlR X r') : SlR X (fun x lo hi H Q => r x lo hi H Q ∨ r' x lo hi H Q) := by
  intro pins s σ H x v vl vu lo hi sl Q I rx hs pl pu q
  rcases q with q | q
  · exact h pins s σ H x v vl vu lo hi sl Q I rx hs pl pu q
  · exact h' pins s σ H x v vl vu lo hi sl Q I rx hs pl pu q
def tSl (r : V → Option Int → Option Int → Hp → VK → Prop) (te : TE) (tl th : TO) : TE := fun σ H Q => te σ H fun x H1 => tl σ H1 fun l H2 => th σ H2 fun u H3 => r x l u H3 Q
theorem pe_slice {r : V → Option Int → Option Int → Hp → VK → Prop} (hr : SlR X r) (he : PE X e te) (hl : PO X lo tl) (hu : PO X hi th) : PE X (.Subscript e (.Slice lo hi none p2) pos) (tSl r te tl th) := by
  intro pins s σ H Q I h
  refine Subscript_ (thn (he pins s σ H _ I h) fun v s1 ⟨x, H1, I1, r1, q1⟩ => ?_)
  refine wpAny_Slice (thn (hl pins s1 σ H1 _ I1 q1) fun vl s2 ⟨l, H2, I2, pl, q2⟩ => thn (hu pins s2 σ H2 _ I2 q2) fun vu s3 ⟨u, H3, I3, pu, q3⟩ => ?_)
  rw [evalPart_none]
  refine wpAny_pure ?_
  have I4 : Inv X pins σ H3 { s3 with heap := s3.heap.push { cls := .type "slice", data := .fields #[vl, vu, .none] } } := I3.kept (t' := s3.toks) fun b ob q => Heap.get?_push_of_some _ q
  obtain ⟨T, id, hT, ht, hg⟩ := hr pins { s3 with heap := s3.heap.push { cls := .type "slice", data := .fields #[vl, vu, .none] } } σ H3 x v vl vu l u s3.heap.objs.size Q I4 r1 (Heap.IsSliceOf.new ..) pl pu q3
  show wpAny (model X.prog X.w) X.A (subscriptTail e (.Slice lo hi none p2) v (.ref s3.heap.objs.size)) (EP X pins σ Q) X.xe { s3 with heap := s3.heap.push { cls := .type "slice", data := .fields #[vl, vu, .none] } }
  exact tail_any (ops := [.ref s3.heap.objs.size, v]) ht hT hg (by with_unfolding_all rfl)
def cutV (xs : List V) (lo hi : Option Int) : List V := (xs.drop (HT.sIx xs.length 0 lo)).take (HT.sIx xs.length xs.length hi - HT.sIx xs.length 0 lo)
theorem cutV_length (xs : List V) (lo hi : Option Int) : (cutV xs lo hi).length ≤ xs.length := by
  unfold cutV
  rw [List.length_take, List.length_drop]
  omega
def rSlT (K : PySem.W.Frag) : V → Option Int → Option Int → Hp → VK → Prop := fun x lo hi H Q => ∃ a xs, x = .ref a ∧ SqT K H a xs ∧
  ¬ (HT.sIx xs.length 0 lo = 0 ∧ HT.sIx xs.length xs.length hi = xs.length) ∧ ∀ p, H p = none → Q (.ref p) (upd H p (.tup (cutV xs lo hi)))
theorem sl_tup : SlR X (rSlT X.K) := by
  intro pins s σ H x v vl vu lo hi sl Q I rx hs pl pu h
  obtain ⟨a, xs, rfl, hx, hw, q⟩ := h
  cases rx
  obtain ⟨its, r, ht, hz⟩ := I.tuple hx
  have hlen : its.toArray.size = xs.length := by rw [List.size_toArray]; exact r.length.symm
  refine ⟨"tuple", _, PyProof.Rows.slot_tuple_getitem.lookup, ht.typeIs, ?_⟩
  refine HT.getItem_tuple_cut ht hs pl pu (by rw [hlen]; exact hw) ?_ (by rw [hlen]; exact hz)
  rw [hlen]
  refine ⟨.ref s.heap.objs.size, _, I.laid (t' := s.toks) (o := .tup (cutV xs lo hi)) (fun b ob q => Heap.get?_push_of_some _ q) (Nat.le_refl _) ?_, rfl, q _ (I.hok.fresh (Nat.le_refl _))⟩
  exact ⟨Nat.le_trans (cutV_length xs lo hi) hz, _, (r.drop (HT.sIx xs.length 0 lo)).take (HT.sIx xs.length xs.length hi - HT.sIx xs.length 0 lo), IsTup.new _ _⟩
def rCatT (K : PySem.W.Frag) : R2 := fun x y H Q => ∃ a b xs ys, x = .ref a ∧ y = .ref b ∧ SqT K H a xs ∧ SqT K H b ys ∧ xs ≠ [] ∧ xs.length + ys.length ≤ sizeLine ∧
  (ys = [] → Q (.ref a) H) ∧ (ys ≠ [] → ∀ p, H p = none → Q (.ref p) (upd H p (.tup (xs ++ ys))))
theorem Vals.nil_iff {xs : List V} {us : List Value} (r : Vals xs us) : us = [] ↔ xs = [] := by
  cases r with
  | nil => simp
  | cons _ _ => simp
theorem op_catT : OpR X (binaryOp .Add) (rCatT X.K) := by
  intro pins s σ H x y v u Q I rx ry h
  obtain ⟨a, b, xs, ys, rfl, rfl, ha, hb, hx, hz, q1, q2⟩ := h
  cases rx
  cases ry
  obtain ⟨its, r1, p1, _⟩ := I.tuple ha
  obtain ⟨its2, r2, p2, _⟩ := I.tuple hb
  refine HT.cat_tup p1 p2 (fun z => hx (r1.nil_iff.mp z)) (fun z => ⟨.ref a, H, I, rfl, q1 (r2.nil_iff.mp z)⟩) (fun z => ?_) (by rw [← r1.length, ← r2.length]; exact hz)
  refine ⟨.ref s.heap.objs.size, _, I.laid (t' := s.toks) (o := .tup (xs ++ ys)) (fun b ob q => Heap.get?_push_of_some _ q) (Nat.le_refl _) ?_, rfl, q2 (fun w => z (r2.nil_iff.mpr w)) _ (I.hok.fresh (Nat.le_refl _))⟩
  exact ⟨by rw [List.length_append]; exact hz, _, r1.append r2, IsTup.new _ _⟩
end
end L2
namespace L2
open PySem PySem.Spec PyProof.Rows
def ixN (n : Nat) (i : Int) : Option Nat := if 0 ≤ i then (if i < n then some i.toNat else none) else if -(n : Int) ≤ i then some (i + n).toNat else none
def atI {α : Type} (xs : List α) (i : Int) : Option α := (ixN xs.length i).bind fun j => xs[j]?
theorem ixN_seq {n : Nat} {i : Int} {j : Nat} (h : ixN n i = some j) : seqIndex? i n = some j ∧ j < n ∧ -(n : Int) ≤ i ∧ i < n := by
  unfold ixN at h
  by_cases h0 : 0 ≤ i
  · rw [if_pos h0] at h
    by_cases h1 : i < n
    · rw [if_pos h1] at h
      have e : i.toNat = j := Option.some.inj h
      exact ⟨by rw [seqIndex_of h0 h1, e], by omega, by omega, h1⟩
    · rw [if_neg h1] at h; cases h
  · rw [if_neg h0] at h
    by_cases h1 : -(n : Int) ≤ i
    · rw [if_pos h1] at h
      have e : (i + n).toNat = j := Option.some.inj h
      exact ⟨by rw [seqIndex_neg (by omega) h1, e], by omega, h1, by omega⟩
    · rw [if_neg h1] at h; cases h
theorem atI_get {α : Type} {xs : List α} {i : Int} {v : α} (h : atI xs i = some v) : ∃ j, seqIndex? i xs.length = some j ∧ xs[j]? = some v ∧ j < xs.length ∧ -(xs.length : Int) ≤ i ∧ i < xs.length := by
  unfold atI at h
  cases e : ixN xs.length i with
  | none => rw [e] at h; cases h
  | some j =>
    rw [e] at h
    obtain ⟨h1, h2, h3, h4⟩ := ixN_seq e
    exact ⟨j, h1, h, h2, h3, h4⟩
theorem atI_nat {α : Type} {xs : List α} {j : Nat} {v : α} (h : xs[j]? = some v) : atI xs (j : Int) = some v := by
  have hj : j < xs.length := (List.getElem?_eq_some_iff.mp h).1
  have e : ixN xs.length (j : Int) = some j := by
    unfold ixN
    rw [if_pos (by omega), if_pos (by omega)]; simp
  unfold atI; rw [e]; exact h
theorem atI_last {α : Type} (xs : List α) (v : α) : atI (xs ++ [v]) (-1) = some v := by
  have hl : (xs ++ [v]).length = xs.length + 1 := by simp
  have e : ixN (xs ++ [v]).length (-1) = some xs.length := by
    unfold ixN
    rw [hl, if_neg (by decide), if_pos (by omega)]
    congr 1
    omega
  unfold atI
  rw [e]
  show (xs ++ [v])[xs.length]? = some v
  simp
def PlainIx (b : Expr) : Prop := ∀ o i, subscripted b false o i = operate [o, i] (getItem o i)
def IxR (X : Cx) (r : R2) : Prop :=
  ∀ (value slice : Expr) (pins : List (Addr × Obj)) (s : Shared) (σ : St) (H : Hp) (x y : V) (v u : Value) (Q : VK), Inv X pins σ H s → RelV x v → RelV y u → r x y H Q →
    subscripted slice false v u = operate [v, u] (getItem v u) → wpAny (model X.prog X.w) X.A (subscriptTail value slice v u) (EP X pins σ Q) X.xe s
def MtR (X : Cx) (id : String) (r : V → List V → Hp → VK → Prop) : Prop :=
  ∀ (pins : List (Addr × Obj)) (s : Shared) (σ : St) (H : Hp) (x : V) (xs : List V) (v : Value) (us : List Value) (Q : VK), Inv X pins σ H s → RelV x v → Vals xs us → r x xs H Q →
    wpAny (model X.prog X.w) X.A (call (.builtin id) (v :: us)) (EP X pins σ Q) X.xe s
section
variable {X : Cx} {a b : Expr} {ta tb : TE} {pos : Pos}
theorem IxR.or {r r' : R2} (h : IxR X r) (h' : IxR X r') : IxR X (fun x y H Q => r x y H Q ∨ r' x y H Q) := by
  intro value slice pins s σ H x y v u Q I rx ry q hs
  rcases q with q | q
  · exact h value slice pins s σ H x y v u Q I rx ry q hs
  · exact h' value slice pins s σ H x y v u Q I rx ry q hs
theorem MtR.or {id : String} {r r' : V → List V → Hp → VK → Prop} (h : MtR X id r) (h' : MtR X id r') : MtR X id (fun x xs H Q => r x xs H Q ∨ r' x xs H Q) := by
  intro pins s σ H x xs v us Q I rx rs q
  rcases q with q | q
  · exact h pins s σ H x xs v us Q I rx rs q
  · exact h' pins s σ H x xs v us Q I rx rs q
theorem pe_ix {r : R2} (hr : IxR X r) (ha : PE X a ta) (hb : PE X b tb) (hs : PlainIx b) : PE X (.Subscript a b pos) (tOp r ta tb) := by
  intro pins s σ H Q I h
  exact Subscript_ (binT ha hb I h fun v u s2 x y H2 I2 rx ry q => hr a b pins s2 σ H2 x y v u Q I2 rx ry q (hs _ _))
def rIxL (K : PySem.W.Frag) : R2 := fun x y H Q => ∃ p xs i v, x = .ref p ∧ y = .int i ∧ SqL K H p xs ∧ atI xs i = some v ∧ Q v H
def rIxT (K : PySem.W.Frag) : R2 := fun x y H Q => ∃ p xs i v, x = .ref p ∧ y = .int i ∧ SqT K H p xs ∧ atI xs i = some v ∧ Q v H
def rIxS : R2 := fun x y H Q => ∃ z i c, x = .str z ∧ y = .int i ∧ z.length ≤ sizeLine ∧ atI z.cps.toList i = some c ∧ Q (.str ⟨#[c]⟩) H
theorem ix_list : IxR X (rIxL X.K) := by
  intro value slice pins s σ H x y v u Q I rx ry h hs
  obtain ⟨p, xs, i, z, rfl, rfl, hq, he, q⟩ := h
  cases rx
  obtain ⟨t, rfl⟩ := ry
  obtain ⟨its, r, pl, hz⟩ := I.list hq
  obtain ⟨j, h1, h2, h3, h4, h5⟩ := atI_get he
  obtain ⟨w, ew, rw'⟩ := r.get h2
  have hl := r.length
  have hn := line63
  have fin : EP X pins σ Q w s := ⟨z, H, I, rw', q⟩
  by_cases h0 : 0 ≤ i
  · have hj : i.toNat = j := by
      rw [seqIndex_of h0 h5] at h1
      exact Option.some.inj h1
    exact item_listR pl.isList h0 (by omega) (by rw [hj]; simpa using ew) fin hs
  · have hj : (i + (its.toArray.size : Int)).toNat = j := by
      rw [seqIndex_neg (by omega) h4] at h1
      rw [List.size_toArray, ← hl]
      exact Option.some.inj h1
    exact subscriptTail_builtinR (x := w) pl.isList.typeIs slot_list_getitem.lookup
      (wpAny_getItem_list_neg (Q := fun r s' => r = w ∧ EP X pins σ Q r s') pl.isList (by omega) (by rw [List.size_toArray] <;> omega) (by omega) (by rw [hj]; simpa using ew) ⟨rfl, fin⟩) hs
theorem ix_tup : IxR X (rIxT X.K) := by
  intro value slice pins s σ H x y v u Q I rx ry h hs
  obtain ⟨p, xs, i, z, rfl, rfl, hq, he, q⟩ := h
  cases rx
  obtain ⟨t, rfl⟩ := ry
  obtain ⟨its, r, pl, hz⟩ := I.tuple hq
  obtain ⟨j, h1, h2, h3, h4, h5⟩ := atI_get he
  obtain ⟨w, ew, rw'⟩ := r.get h2
  have hl := r.length
  have hn := line63
  have fin : EP X pins σ Q w s := ⟨z, H, I, rw', q⟩
  exact subscriptTail_builtinR (x := w) pl.typeIs slot_tuple_getitem.lookup
    (getItem_tuple (j := j) (Q := fun r s' => r = w ∧ EP X pins σ Q r s') pl (by omega) (by omega) (by rw [List.size_toArray, ← hl]; exact h1) (by simpa using ew) ⟨rfl, fin⟩) hs
theorem ix_str : IxR X rIxS := by
  intro value slice pins s σ H x y v u Q I rx ry h hs
  obtain ⟨z, i, c, rfl, rfl, hz, he, q⟩ := h
  obtain ⟨t, rfl⟩ := rx
  obtain ⟨t', rfl⟩ := ry
  obtain ⟨j, h1, h2, h3, h4, h5⟩ := atI_get he
  have hl : z.cps.toList.length = z.length := by simp [Str.length]
  rw [hl] at h1 h4 h5
  have hn := line63
  exact tail_any (typeIs_str s z t) slot_str_getitem.lookup (getItem_str (c := c) (by
    have e1 : decide (i < -(2 ^ 63 : Int)) = false := decide_eq_false (by omega)
    have e2 : decide (i ≥ 2 ^ 63) = false := decide_eq_false (by omega)
    rw [e1, e2, Bool.or_false]) (by rw [h1]; simpa using h2) ⟨.str ⟨#[c]⟩, H, I.tok _, ⟨_, rfl⟩, q⟩) hs
theorem Inv.lst {pins : List (Addr × Obj)} {σ : St} {H : Hp} {s : Shared} {p : Addr} {xs : List V} (I : Inv X pins σ H s) (h : H p = some (.lst xs)) :
    ∃ (its : List Value) (n : Nat), Vals xs its ∧ s.heap.get? p = some { cls := .type "list", data := .seq its.toArray n } ∧ xs.length ≤ sizeLine := by
  obtain ⟨z, its, n, r, e⟩ := I.hok p _ h
  exact ⟨its, n, r, e, z⟩
theorem slice_bounds (lo hi : Option Int) (n : Nat) : (sliceBounds lo hi none n).1 = ((HT.sIx n 0 lo : Nat) : Int) ∧ (sliceBounds lo hi none n).2.1 = ((HT.sIx n n hi : Nat) : Int) ∧ (sliceBounds lo hi none n).2.2 = 1 := by
  refine ⟨?_, ?_, rfl⟩
  · cases lo with
    | none => simp [sliceBounds, HT.sIx]
    | some i =>
      simp only [sliceBounds, HT.sIx, Option.getD_none, show (1 : Int) > 0 by decide, if_true]
      by_cases h : i < 0
      · simp only [h, if_true] <;> omega
      · simp only [h, if_false] <;> omega
  · cases hi with
    | none => simp [sliceBounds, HT.sIx]
    | some i =>
      simp only [sliceBounds, HT.sIx, Option.getD_none, show (1 : Int) > 0 by decide, if_true]
      by_cases h : i < 0
      · simp only [h, if_true] <;> omega
      · simp only [h, if_false] <;> omega
theorem call_len_seq : CallR X (.builtin "len") (fun xs H Q => ∃ p ys, xs = [.ref p] ∧ (SqL X.K H p ys ∨ SqT X.K H p ys) ∧ Q (.int ys.length) H) := by
  intro pins s σ H xs us Q I r h
  obtain ⟨p, ys, rfl, hq, q⟩ := h
  obtain ⟨u, rfl, rx⟩ := vals1 r
  cases rx
  have hn := line63
  rcases hq with hq | hq
  · obtain ⟨its, r', pl, hz⟩ := I.list hq
    have hlen := r'.length
    exact Calls.call_len_list pl.isList (by simp only [List.size_toArray] <;> omega) ⟨.int ys.length, H, I.tok _, ⟨s.toks + 1, by rw [List.size_toArray, hlen]⟩, q⟩
  · obtain ⟨its, r', pl, hz⟩ := I.tuple hq
    have hlen := r'.length
    exact len_tuple pl (by simp only [List.size_toArray] <;> omega) ⟨.int ys.length, H, I.tok _, ⟨s.toks + 1, by rw [List.size_toArray, hlen]⟩, q⟩
theorem call_len_str : CallR X (.builtin "len") (fun xs H Q => ∃ z, xs = [.str z] ∧ z.length ≤ sizeLine ∧ Q (.int z.length) H) := by
  intro pins s σ H xs us Q I r h
  obtain ⟨z, rfl, hz, q⟩ := h
  obtain ⟨u, rfl, t, rfl⟩ := vals1 r
  have hn := line63
  exact len_str (by omega) ⟨.int z.length, H, I.tok _, ⟨_, rfl⟩, q⟩
theorem CallR.or {f : Value} {r r' : List V → Hp → VK → Prop} (h : CallR X f r) (h' : CallR X f r') : CallR X f (fun xs H Q => r xs H Q ∨ r' xs H Q) := by
  intro pins s σ H xs us Q I rs q
  rcases q with q | q
  · exact h pins s σ H xs us Q I rs q
  · exact h' pins s σ H xs us Q I rs q
theorem call_list_of : CallR X (.type "list") (fun xs H Q => ∃ p ys, xs = [.ref p] ∧ (SqL X.K H p ys ∨ SqT X.K H p ys) ∧ ∀ l, H l = none → Q (.ref l) (upd H l (.lst ys))) := by
  intro pins s σ H xs us Q I r h
  obtain ⟨p, ys, rfl, hq, q⟩ := h
  obtain ⟨u, rfl, rx⟩ := vals1 r
  cases rx
  have fin : ∀ (its : List Value), Vals ys its → ys.length ≤ sizeLine → ∀ (h' : Heap) (c' : Nat), (∀ b o', s.heap.get? b = some o' → h'.get? b = some o') →
      h'.get? s.heap.objs.size = some { cls := .type "list", dict := none, data := .seq its.toArray c', slots := #[] } → EP X pins σ Q (.ref s.heap.objs.size) { s with heap := h' } := fun its r' hz h' c' kp e =>
    ⟨.ref s.heap.objs.size, _, I.laid (t' := s.toks) kp (Nat.le_refl _) (show ObjOk X.prog X.w _ h' _ (.lst ys) from ⟨hz, its, c', r', e⟩), rfl, q _ (I.hok.fresh (Nat.le_refl _))⟩
  rcases hq with hq | hq
  · obtain ⟨its, r', pl, hz⟩ := I.list hq
    have hlen := r'.length
    obtain ⟨o, ho, hc, n, hd⟩ := pl.isList
    exact call_list_seq p (.inl rfl) ho hc hd (fun h' c' kp e => fin its r' hz h' c' kp e) (by simp only [List.size_toArray] <;> omega)
  · obtain ⟨its, r', pl, hz⟩ := I.tuple hq
    have hlen := r'.length
    obtain ⟨o, ho, hc, n, hd⟩ := pl
    exact call_list_seq p (.inr rfl) ho hc hd (fun h' c' kp e => fin its r' hz h' c' kp e) (by simp only [List.size_toArray] <;> omega)
theorem call_tuple_of : CallR X (.type "tuple") (fun xs H Q => ∃ p ys, xs = [.ref p] ∧ ((SqL X.K H p ys ∧ ∀ l, H l = none → Q (.ref l) (upd H l (.tup ys))) ∨ (SqT X.K H p ys ∧ Q (.ref p) H))) := by
  intro pins s σ H xs us Q I r h
  obtain ⟨p, ys, rfl, h⟩ := h
  obtain ⟨u, rfl, rx⟩ := vals1 r
  cases rx
  rcases h with ⟨hq, q⟩ | ⟨hq, q⟩
  · obtain ⟨its, r', pl, hz⟩ := I.list hq
    have hlen := r'.length
    refine call_tuple_list pl.isList (fun h' kp => ?_) (by simp only [List.size_toArray] <;> omega)
    have I1 : Inv X pins σ H { s with heap := h' } := I.kept (t' := s.toks) kp
    have I2 : Inv X pins σ (upd H h'.objs.size (.tup ys)) { s with heap := h'.push { cls := .type "tuple", data := .seq its.toArray } } :=
      I1.laid (t' := s.toks) (fun b o e => Heap.get?_push_of_some _ e) (Nat.le_refl _) (show ObjOk X.prog X.w _ _ _ (.tup ys) from ⟨hz, its, r', IsTup.new _ _⟩)
    exact ⟨.ref h'.objs.size, _, I2, rfl, q _ (I1.hok.fresh (Nat.le_refl _))⟩
  · obtain ⟨its, r', pl, hz⟩ := I.tuple hq
    exact call_tuple_same pl ⟨.ref p, H, I, rfl, q⟩
def tyV (K : PySem.W.Frag) (T : String) (x : V) (H : Hp) : Prop := match x with
  | .str _ => T = "str"
  | .int _ => T = "int"
  | .ref p => (T = "list" ∧ ∃ xs, SqL K H p xs) ∨ (T = "tuple" ∧ ∃ o, K.lookup p = some o ∧ o.cls = .type "tuple" ∧ o.dict = none) ∨
      (T = "dict" ∧ ((∃ kvs, H p = some (.dK kvs)) ∨ ∃ kvs, H p = some (.dT kvs))) ∨ (T = "set" ∧ ∃ S n, H p = some (.set S n))
  | _ => False
theorem tyV_is {pins : List (Addr × Obj)} {σ : St} {H : Hp} {s : Shared} {T : String} {x : V} {v : Value} (I : Inv X pins σ H s) (r : RelV x v) (ty : tyV X.K T x H) :
    s.TypeIs v T ∧ ∀ a, v = .ref a → ∃ ob, s.heap.get? a = some ob ∧ ob.dict = none := by
  cases x with
  | str z =>
    obtain ⟨t, rfl⟩ := r
    cases (show T = "str" from ty)
    exact ⟨typeIs_str s z t, fun _ e => nomatch e⟩
  | int i =>
    obtain ⟨t, rfl⟩ := r
    cases (show T = "int" from ty)
    exact ⟨typeIs_int s i t, fun _ e => nomatch e⟩
  | ref p =>
    cases r
    rcases ty with ⟨rfl, xs, hq⟩ | ⟨rfl, o, hk, hc, hd⟩ | ⟨rfl, hk⟩ | ⟨rfl, S, n, hk⟩
    · obtain ⟨its, _, pl, _⟩ := I.list hq
      refine ⟨pl.isList.typeIs, fun a e => ?_⟩
      cases e
      obtain ⟨o, n, e, c, hd, _⟩ := pl
      exact ⟨o, e, hd⟩
    · refine ⟨⟨o, I.kIn p o hk, hc⟩, fun a e => ?_⟩
      cases e
      exact ⟨o, I.kIn _ o hk, hd⟩
    · have z : ∃ o, s.heap.get? p = some o ∧ o.ExactDict := by
        rcases hk with ⟨kvs, hk⟩ | ⟨kvs, hk⟩
        · obtain ⟨_, _, _, _, o, _, _, e, ex, _⟩ := I.hok p _ hk
          exact ⟨o, e, ex⟩
        · obtain ⟨_, _, _, _, o, _, _, e, ex, _⟩ := I.hok p _ hk
          exact ⟨o, e, ex⟩
      obtain ⟨o, e, ex⟩ := z
      refine ⟨⟨o, e, ex.1⟩, fun a e2 => ?_⟩
      cases e2
      exact ⟨o, e, ex.2.1⟩
    · obtain ⟨o, _, _, _, e, ex, _⟩ := I.hok p _ hk
      refine ⟨⟨o, e, ex.1⟩, fun a e2 => ?_⟩
      cases e2
      exact ⟨o, e, ex.2.1⟩
  | _ => exact False.elim ty
def tBM0 (K : PySem.W.Frag) (T : String) (r : V → List V → Hp → VK → Prop) (to : TE) : TE := fun σ H Q => to σ H fun x H1 => tyV K T x H1 ∧ r x [] H1 Q
def tBM (K : PySem.W.Frag) (T : String) (r : V → List V → Hp → VK → Prop) (to : TE) (t : TA) : TE := fun σ H Q => to σ H fun x H1 => tyV K T x H1 ∧ t σ H1 fun xs H2 => r x xs H2 Q
variable {o e : Expr} {es : List Expr} {to : TE} {t : TA} {name : Str} {apos cpos : Pos} {T id : String} {r : V → List V → Hp → VK → Prop}
theorem pe_bm0 (pa : PlainAttrs T) (slot : Slot T name id) (hty : typeOf (.builtin id) = pure (.type "method_descriptor")) (hm : MtR X id r) (ho : PE X o to)
    (hbase : attributeBase o name X.env (eval o X.env) = eval o X.env := by rfl) (hline : (apos.endLine == cpos.line) = true := by rfl) : PE X (.Call (.Attribute o name apos) [] [] cpos) (tBM0 X.K T r to) := by
  intro pins s σ H Q I h
  refine wpAny_Call_method0_late hbase hline (thn (ho pins s σ H _ I h) fun v s1 ⟨x, H1, I1, r1, ty, q1⟩ => ?_)
  obtain ⟨h1, h2⟩ := tyV_is I1 r1 ty
  exact ⟨T, id, pa, slot, hty, h1, h2, Calls.callWith_builtin rfl (PySem.evalArgs_none (hm pins s1 σ H1 x [] v [] Q I1 r1 .nil q1))⟩
theorem pe_bm (pa : PlainAttrs T) (slot : Slot T name id) (hty : typeOf (.builtin id) = pure (.type "method_descriptor")) (hm : MtR X id r) (ho : PE X o to) (ha : PA X (e :: es) t)
    (hbase : attributeBase o name X.env (eval o X.env) = eval o X.env := by rfl)
    (hfew : ((backTo cpos (starEach (e :: es) X.env)).all (fun x => !x.1) && (backToKw cpos (keywordEach [] X.env)).all (fun x => x.1.isSome)
      && decide ((e :: es).length + ([] : List Keyword).length + (if ([] : List Keyword).isEmpty then 0 else 1) < 30)) = true := by rfl)
    (hline : (apos.endLine == cpos.line) = true := by rfl) (hs : starEach (e :: es) X.env = (false, eval e X.env) :: starEach es X.env := by rfl) (hplain : (backTo cpos (starEach es X.env)).any (·.1) = false := by rfl) :
    PE X (.Call (.Attribute o name apos) (e :: es) [] cpos) (tBM X.K T r to t) := by
  intro pins s σ H Q I h
  refine wpAny_Call_method_late hbase hfew hline rfl (thn (ho pins s σ H _ I h) fun v s1 ⟨x, H1, I1, r1, ty, q1⟩ => ?_)
  obtain ⟨h1, h2⟩ := tyV_is I1 r1 ty
  refine ⟨T, id, pa, slot, hty, h1, h2, ?_⟩
  have hA := ha cpos pins s1 σ H1 _ I1 q1
  rw [hs] at hA ⊢
  refine Calls.callWith_builtin (by show (false || (backTo cpos (starEach es X.env)).any (·.1)) = false; rw [hplain] <;> rfl) (Calls.evalArgs_plain ?_)
  exact thn hA fun us s2 ⟨vs, H2, I2, r2, q2⟩ => hm pins s2 σ H2 x vs v us Q I2 r1 r2 q2
/- xs.append(e), list.index on a module's tuple .. are MtR facts of 06m -/
end
end L2
namespace L2
open PySem PySem.Spec PyProof.Rows
def MtM (X : Cx) (id : String) (r : V → List V → Hp → VK → Prop) : Prop :=
  ∀ (pins : List (Addr × Obj)) (s : Shared) (σ : St) (H : Hp) (x : V) (xs : List V) (v : Value) (us : List Value) (Q : VK), Inv X pins σ H s → RelV x v → Vals xs us → r x xs H Q →
    wpAny (model X.prog X.w) X.A (call (.builtin id) (v :: us)) (EP X pins σ Q) X.xe s
theorem Vals.one : ∀ {x : V} {us : List Value}, Vals [x] us → ∃ u, us = [u] ∧ RelV x u
  | _, _, .cons r .nil => ⟨_, rfl, r⟩
theorem Vals.two : ∀ {x y : V} {us : List Value}, Vals [x, y] us → ∃ u v, us = [u, v] ∧ RelV x u ∧ RelV y v
  | _, _, _, .cons r (.cons q .nil) => ⟨_, _, rfl, r, q⟩
theorem Vals.zero : ∀ {us : List Value}, Vals [] us → us = []
  | _, .nil => rfl
theorem Vals.dropLast {xs : List V} {us : List Value} (h : Vals xs us) : Vals xs.dropLast us.dropLast := by
  induction h with
  | nil => exact .nil
  | cons r t ih =>
    cases t with
    | nil => exact .nil
    | cons q t' => exact .cons r ih
theorem Vals.eraseIdx : ∀ {xs : List V} {us : List Value} (i : Nat), Vals xs us → Vals (xs.eraseIdx i) (us.eraseIdx i)
  | _, _, _, .nil => .nil
  | _, _, 0, .cons _ t => t
  | _, _, i + 1, .cons r t => .cons r (Vals.eraseIdx i t)
theorem Vals.reverse {xs : List V} {us : List Value} (h : Vals xs us) : Vals xs.reverse us.reverse := by
  induction h with
  | nil => exact .nil
  | cons r t ih => rw [List.reverse_cons, List.reverse_cons]; exact Vals.append ih (.cons r .nil)
theorem erase_last {α : Type} (l : List α) : l.eraseIdx (l.length - 1) = l.dropLast := by
  induction l with
  | nil => rfl
  | cons a r ih =>
    cases r with
    | nil => rfl
    | cons b r =>
      have e : (a :: b :: r).length - 1 = ((b :: r).length - 1) + 1 := by
        have h1 : (a :: b :: r).length = r.length + 2 := rfl
        have h2 : (b :: r).length = r.length + 1 := rfl
        omega
      rw [e, List.eraseIdx_cons_succ, ih]
      all_goals rfl
section
variable {X : Cx} {pins : List (Addr × Obj)} {σ : St} {H : Hp} {s : Shared} {l b : Addr} {xs ys zs : List V}
theorem Inv.lset {its its' : List Value} {n : Nat} {f : Array Value → Array Value} {t' : Nat} (I : Inv X pins σ H s) (hH : H l = some (.lst xs))
    (e : s.heap.get? l = some { cls := .type "list", data := .seq its.toArray n }) (hf : f its.toArray = its'.toArray) (hv : Vals ys its') (hz : ys.length ≤ sizeLine) :
    Inv X pins σ (upd H l (.lst ys)) { s with heap := s.heap.update l (Obj.mapSeq f), toks := t' } := by
  have q := PySem.IsL.update e f
  rw [hf] at q
  refine I.write (x := l) (e := l) (by rw [hH]; exact trivial) (.inl rfl) (fun b' u hb hu => (Heap.get?_update_other s.heap (Obj.mapSeq f) (Ne.symm hb)).trans hu) ⟨_, q⟩ ?_
  exact ⟨hz, its', _, hv, q⟩
theorem Inv.lnew {its : List Value} {t' : Nat} (I : Inv X pins σ H s) (hv : Vals ys its) (hz : ys.length ≤ sizeLine) :
    Inv X pins σ (upd H s.heap.objs.size (.lst ys)) { s with heap := s.heap.push { cls := .type "list", data := .seq its.toArray }, toks := t' } :=
  I.laid (fun _ _ q => Heap.get?_push_of_some _ q) (Nat.le_refl _) ⟨hz, its, 0, hv, Heap.get?_push_size _ rfl⟩
theorem Inv.fresh (I : Inv X pins σ H s) : H s.heap.objs.size = none := I.hok.fresh (Nat.le_refl _)
theorem Inv.lstM (I : Inv X pins σ H s) (hH : H l = some (.lst xs)) : xs.length ≤ sizeLine ∧ ∃ (its : List Value) (n : Nat), Vals xs its ∧ xs.length = its.length ∧ s.heap.get? l = some { cls := .type "list", data := .seq its.toArray n } := by
  obtain ⟨z, its, n, r, e⟩ := I.hok l _ hH
  exact ⟨z, its, n, r, r.length, e⟩
theorem notLongL {n : Nat} (h : n ≤ sizeLine) : Builtin.List.listTooLong n = false := by
  unfold Builtin.List.listTooLong
  exact decide_eq_false (by omega)
end
section
variable {X : Cx}
def rAppend : V → List V → Hp → VK → Prop := fun x vs H Q => ∃ l xs y, x = .ref l ∧ vs = [y] ∧ H l = some (.lst xs) ∧ xs.length < sizeLine ∧ Q .non (upd H l (.lst (xs ++ [y])))
theorem mt_append : MtM X "list.append" rAppend := by
  intro pins s σ H x vs v us Q I rx rv h
  obtain ⟨l, xs, y, rfl, rfl, hH, hz, q⟩ := h
  cases rx
  obtain ⟨u, rfl, ru⟩ := rv.one
  obtain ⟨z, its, n, r, hl, e⟩ := I.lstM hH
  refine call_meets F.slot_list_append ⟨_, e, rfl⟩ F.entry_list_append (F.args_list_append_2 _ _) (PySem.list_append l its.toArray n u (by rw [List.size_toArray]; omega)) ⟨e, ?_⟩
  refine ⟨.non, _, I.lset (its' := its ++ [u]) hH e (by simp) (r.append (.cons ru .nil)) ?_, rfl, q⟩
  rw [List.length_append, List.length_singleton]
  omega
def rExtend : V → List V → Hp → VK → Prop := fun x vs H Q => ∃ l b xs zs, x = .ref l ∧ vs = [.ref b] ∧ H l = some (.lst xs) ∧ H b = some (.lst zs) ∧ xs.length + zs.length ≤ sizeLine ∧ Q .non (upd H l (.lst (xs ++ zs)))
theorem mt_extend : MtM X "list.extend" rExtend := by
  intro pins s σ H x vs v us Q I rx rv h
  obtain ⟨l, b, xs, zs, rfl, rfl, hH, hB, hz, q⟩ := h
  cases rx
  obtain ⟨u, rfl, ru⟩ := rv.one
  cases ru
  obtain ⟨z, its, n, r, hl, e⟩ := I.lstM hH
  obtain ⟨z2, its2, n2, r2, hl2, e2⟩ := I.lstM hB
  have hsz : its.toArray.size + its2.toArray.size ≤ sizeLine := by rw [List.size_toArray, List.size_toArray]; omega
  have hlong : ¬ (!its.toArray.isEmpty && Builtin.List.listTooLong (its.toArray.size + its2.toArray.size)) = true := by
    rw [notLongL hsz, Bool.and_false]
    exact Bool.false_ne_true
  refine call_meets F.slot_list_extend ⟨_, e, rfl⟩ F.entry_list_extend (F.args_list_extend_2 _ _)
    (AutoSeq1.list_extend_list_list_0 l its.toArray n b its2.toArray n2 hlong (by rw [List.size_toArray]; omega) (by omega)) ⟨e, e2, ?_⟩
  refine ⟨.non, _, I.lset (its' := its ++ its2) hH e (by simp) (r.append r2) ?_, rfl, q⟩
  rw [List.length_append]
  omega
def rPop : V → List V → Hp → VK → Prop := fun x vs H Q => ∃ l xs y, x = .ref l ∧ vs = [] ∧ H l = some (.lst xs) ∧ xs[xs.length - 1]? = some y ∧ Q y (upd H l (.lst xs.dropLast))
theorem mt_pop : MtM X "list.pop" rPop := by
  intro pins s σ H x vs v us Q I rx rv h
  obtain ⟨l, xs, y, rfl, rfl, hH, hy, q⟩ := h
  cases rx
  have hus := rv.zero
  subst hus
  obtain ⟨z, its, n, r, hl, e⟩ := I.lstM hH
  obtain ⟨u, hu, ru⟩ := r.get hy
  have hy' : its.toArray[its.toArray.size - 1]? = some u := by
    show its.toArray[its.length - 1]? = some u
    rw [← Array.getElem?_toList, ← hl]
    exact hu
  refine call_meets F.slot_list_pop ⟨_, e, rfl⟩ F.entry_list_pop (F.args_list_pop_1 _) (MeetsSeq.list_pop_last l its.toArray n u hy' (by rw [List.size_toArray]; omega)) ⟨e, ?_⟩
  refine ⟨y, _, I.lset (its' := its.dropLast) hH e ?_ r.dropLast ?_, ru, q⟩
  · show its.toArray.eraseIdxIfInBounds (its.toArray.size - 1) = its.dropLast.toArray
    rw [List.size_toArray, List.eraseIdxIfInBounds_toArray, erase_last]
  · rw [List.length_dropLast]
    omega
def rCat : R2 := fun x y H Q => ∃ l b xs zs, x = .ref l ∧ y = .ref b ∧ H l = some (.lst xs) ∧ H b = some (.lst zs) ∧ xs.length + zs.length ≤ sizeLine ∧ ∀ p, H p = none → Q (.ref p) (upd H p (.lst (xs ++ zs)))
theorem op_cat : OpR X (binaryOp .Add) rCat := by
  intro pins s σ H x y v u Q I rx ry h
  obtain ⟨l, b, xs, zs, rfl, rfl, hH, hB, hz, q⟩ := h
  cases rx
  cases ry
  obtain ⟨z, its, n, r, hl, e⟩ := I.lstM hH
  obtain ⟨z2, its2, n2, r2, hl2, e2⟩ := I.lstM hB
  refine PySem.P.add_list e e2 ?_ (by rw [List.size_toArray, List.size_toArray]; omega)
  have ea : its.toArray ++ its2.toArray = (its ++ its2).toArray := by simp
  rw [ea]
  exact ⟨.ref _, _, I.lnew (t' := s.toks) (r.append r2) (by rw [List.length_append]; omega), rfl, q _ I.fresh⟩
end
section
variable {prog : Program} {w : World} {A : Around} {E : Value → Shared → Prop} {s : Shared}
end
section
variable {X : Cx}
end
end L2
namespace Att
open PySem PySem.W PySem.Calls PyProof.Rows
theorem ints_of_wellAll {P : Params} {h : Heap} : ∀ (ns : List Int) (vs : List Value), WellAll P h vs (ns.map WData.int) → IntsAre vs ns := by
  intro ns
  induction ns with
  | nil =>
    intro vs w
    rw [List.map_nil] at w
    cases w
    exact .nil
  | cons n ns ih =>
    intro vs w
    rw [List.map_cons] at w
    cases w with
    | cons a b =>
      cases a
      exact .cons _ _ (ih _ b)
theorem script_of {l : OpenLaw} {n : Nat} (hn : l.most = some n) {P : Params} {h : Heap} {args : List WData} {vals : List Value}
    (hpre : l.row.toRowW.claim.pre args = true) (hwl : WellAll P h vals args) :
    ∃ a vs ns, vals = [Value.ref a] ∧ args = [WData.list (ns.map WData.int)] ∧ h.get? a = some { cls := .type "list", data := .seq vs.toArray } ∧ IntsAre vs ns ∧ ns.length ≤ n := by
  have hsh : WShape.hasAll [] args [.list .int] = true := (pre_splitW hpre).1
  have hc : l.pre.holds [] { args := args } = true := (pre_splitW hpre).2
  obtain ⟨d, r, rfl, h1, h2⟩ := hasAllW_cons hsh
  obtain rfl := hasAllW_nil h2
  obtain ⟨xs, rfl, h3⟩ := hasW_list h1
  obtain ⟨ns, rfl⟩ := items_int h3
  have hlen : ns.length ≤ n := by
    unfold OpenLaw.pre at hc
    have h4 : (WTm.not (.lt (.lit (.int (n : Int))) (.len (.arg 0)))).holds [] { args := [.list (ns.map .int)] } = true := by
      have h4 := (holds_andW hc).1
      rw [hn] at h4
      exact h4
    have h5 := condW_of h4 (w_not (w_lt w_lit (w_len_list (w_arg rfl))))
    rw [List.length_map] at h5
    refine Nat.le_of_not_lt fun q => ?_
    have q' : (n : Int) < ((ns.length : Nat) : Int) := by omega
    first
      | (rw [decide_eq_true q'] at h5; exact absurd h5 (by decide))
      | (simp at h5; omega)
  cases hwl with
  | cons w1 w2 =>
    cases w2
    cases w1 with
    | list ho hall => exact ⟨_, _, ns, rfl, rfl, ho, ints_of_wellAll ns _ hall, hlen⟩
theorem post_true (l : OpenLaw) (args : List WData) : l.row.toRowW.claim.post args (.bool true) args = true :=
  postW_of (r := l.row.toRowW) (X := (true == true))
    (show WShape.has [] (.bool true) .bool = true by first | rfl | decide | simp [WShape.has, WShape.arms, WShape.armsAll])
    (show (WTm.eq .res (.lit (.bool true))).value [] { args := args, res := some (.bool true), after := args } = some (.bool (true == true)) from w_eq_bool (w_res rfl) w_lit) rfl
theorem attach_call {l : OpenLaw} {n : Nat} {q : Program} {loose : List Str} {XP : (Str → Option Value) → Heap → Prop} {YP : World → Heap → Prop} {d : DefRec}
    (hn : l.most = some n) (hdf : d.params.defaults = [])
    (call : ∀ (w : World) (s₀ s₁ : Shared) (mg mb : Str → Option Value) (fa : Addr) (o : Obj) (pm cd doc : Value) (a : Addr) (vs : List Value) (ns : List Int),
      Ground q loose [] XP w s₀ mg mb s₁.heap → YP w s₁.heap →
      s₁.heap.get? fa = some o → o.data = .func (docDef d.name d.params d.body d.scope pm cd doc) → s₁.heap.CodeRec cd d.name → mg d.name = some (.ref fa) →
      s₁.heap.get? a = some { cls := .type "list", data := .seq vs.toArray } → IntsAre vs ns → ns.length ≤ n → s₁.gens = #[] →
      codeAny (model l.prog w) callerA (.call (.ref fa) ⟨[.ref a], []⟩) (fun r s' => r = .ok (.ret (.bool true)) ∧ OldK s₁.heap s'.heap ∧ s'.os = s₁.os ∧ AllBare s'.gens) s₁) :
    WalkO q loose XP YP l.row.toRowW d [] (fun f vs => PySem.call f vs) := by
  intro w s₀ s₁ mg mb G Y fa o pm cd doc dV kV ho hd hcd hD hmg hg args vals as hpre hlay hrd hwl hlo
  obtain rfl : dV = .none := Dflts.none hD hdf
  obtain rfl : kV = .none := Dflts.noKw hD
  obtain ⟨a, vs, ns, rfl, rfl, hobj, hints, hlen⟩ := script_of hn hpre hwl
  refine enter_call (codeAny_mono (call w s₀ s₁ mg mb fa o pm cd doc a vs ns G Y ho (fd_plain hd) hcd hmg hobj hints hlen hg) fun r s' hq => ?_)
  obtain ⟨rfl, h2, h3, h4⟩ := hq
  exact ⟨.inl ⟨.bool true, .bool true, [], rfl, fun _ => rfl, .bool true, post_true l _, fun _ => ⟨List.Pairwise.nil, fun _ hm => (nomatch hm)⟩⟩, h2, h3, h4⟩
section
variable {prog : Program} {w : World} {A : Around} {E : Value → Shared → Prop} {s : Shared} {K : Frag}
end
end Att
namespace L2
open PySem PySem.Spec PyProof.Rows
theorem vals_ints : ∀ {vs : List Value} {ns : List Int}, IntsAre vs ns → Vals (ns.map V.int) vs
  | _, _, .nil => .nil
  | _, _, .cons n t h => .cons ⟨t, rfl⟩ (vals_ints h)
def Only (H : Hp) : Prop := ∀ b, H b = none ∨ ∃ o xs, H b = some (.frz o (.lst xs))
theorem law_call {P : Program} {w : World} {K : PySem.W.Frag} {mg mb : Str → Option Value} {CX : CXT} {k : Nat} {fa a : Addr} {fd : FuncData} {x : Str} {sp : Sp} {s₁ : Shared} {vs : List Value} {ns : List Int}
    (KX : K.In s₁.heap) (hns : s₁.heap.Ns mainGlobals mg) (hb : s₁.heap.Ns builtinsNs mb) (hbb : ∀ x : Str, x ≠ "__name__" → mb x = bootBuiltins x) (hlim : s₁.heap.NoLimit) (hg : s₁.gens = #[])
    (ha : s₁.heap.get? a = some { cls := .type "list", data := .seq vs.toArray }) (hi : IntsAre vs ns) (hl : ns.length ≤ sizeLine) (hr : Room k callerA)
    (F : ∀ base : Heap, K.In base → base.Ns mainGlobals mg → FnOk P w K mg base CX k fa fd [x] sp) (hbind : ∀ (s : Shared) (u : Value), BindsTo s fd ⟨[u], []⟩ [(x, u)])
    (hsp : ∀ H : Hp, Only H → SqL K H a (ns.map V.int) → sp [.ref a] H (fun v _ => v = .bl true) fun _ _ _ => False)
    (hCX : ∀ H e s', CX [] H s₁ (fun _ _ _ => False) e s' → False) :
    codeAny (model P w) callerA (.call (.ref fa) ⟨[.ref a], []⟩) (fun r s' => r = .ok (.ret (.bool true)) ∧ OldK s₁.heap s'.heap ∧ s'.os = s₁.os ∧ AllBare s'.gens) s₁ := by
  have rv := vals_ints hi
  have lenV := hi.length
  have core : ∀ H : Hp, Only H → SqL K H a (ns.map V.int) → HOk P w H s₁.heap → (∀ b, H b ≠ none → b = a) → (H a ≠ none → K.lookup a = none) →
      codeAny (model P w) callerA (.call (.ref fa) ⟨[.ref a], []⟩) (fun r s' => r = .ok (.ret (.bool true)) ∧ OldK s₁.heap s'.heap ∧ s'.os = s₁.os ∧ AllBare s'.gens) s₁ := by
    intro H hO hS hok hA hK
    have base_of : ∀ {b : Addr} {o : Obj}, s₁.heap.get? b = some o → H b = none → (hidT s₁.heap H).get? b = some o := fun e n => hidT_get e n
    have noA : ∀ {b : Addr} {o : Obj} {es : Array DictEntry} {ep : Nat}, s₁.heap.get? b = some o → o.data = .dict es ep → H b = none := fun {b o es ep} e d => by
      cases q : H b with
      | none => rfl
      | some u =>
        have e' : b = a := hA b (by rw [q]; simp)
        subst e'
        rw [ha] at e; cases e
        have d' : Data.seq vs.toArray _ = Data.dict es ep := d
        cases d'
    have nsK : ∀ {b : Addr} {m : Str → Option Value}, s₁.heap.Ns b m → (hidT s₁.heap H).Ns b m := fun {b m} ⟨o, es, ep, e, d, r⟩ => ⟨o, es, ep, base_of e (noA e d), d, r⟩
    have hKb : K.In (hidT s₁.heap H) := fun b o e => base_of (KX b o e) (by
      cases q : H b with
      | none => rfl
      | some u =>
        have e' : b = a := hA b (by rw [q]; simp)
        subst e'
        rw [hK (by rw [q]; simp)] at e; cases e)
    have hM : Mod K mg (hidT s₁.heap H) := ⟨hKb, nsK hns, ⟨mb, nsK hb, hbb⟩, let ⟨mc, h1, h2⟩ := hlim; ⟨mc, nsK h1, h2⟩⟩
    have e0 : Env0 P w K mg (hidT s₁.heap H) callerA [] s₁ H := ⟨rfl, hM, fun b o e => of_hidT e, Nat.le_of_eq (hidT_size _ _), trivial, fun b hb => absurd (show b ∈ ([] : List Addr) from hb) (by simp), hok, .of_eq hg⟩
    refine codeAny_mono ((F _ hKb (nsK hns)).run callerA [] s₁ H ⟨[.ref a], []⟩ [.ref a] [.ref a] _ _ hr e0 (hbind s₁ (.ref a)) (.cons rfl .nil) (hsp H hO hS)) fun r s' h => ?_
    cases r with
    | error e => exact (hCX H e s' h).elim
    | ok fl =>
      cases fl with
      | next => exact False.elim h
      | brk => exact False.elim h
      | cont => exact False.elim h
      | ret u =>
        obtain ⟨v, H', os, bare, un, hok', r', q⟩ := h
        have q' : v = .bl true := q
        subst q'
        obtain rfl : u = Value.bool true := r'
        refine ⟨rfl, OldK.of_keep fun b o e => ?_, os, bare⟩
        cases q : H b with
        | none => exact un.keep b o e q (by intro z; exact absurd (show b ∈ ([] : List Addr) from z) (by simp)) (by simp)
        | some u =>
          rcases hO b with z | ⟨ob, xs, z⟩
          · rw [q] at z; cases z
          · have z2 := un.frzs b ob _ z
            obtain ⟨e1, _⟩ := hok b _ z
            obtain ⟨e2, _⟩ := hok' b _ z2
            rw [e] at e1; cases e1
            exact e2
  cases hk : K.lookup a with
  | some o =>
    have e := KX a o hk
    rw [ha] at e
    cases e
    refine core (fun _ => none) (fun _ => .inl rfl) (.inr ⟨_, vs.toArray, _, hk, rfl, rfl, rfl, by rw [List.size_toArray, lenV]; exact hl, by simpa using rv⟩) (fun b u z => by have z' : (none : Option HO) = some u := z; cases z') (fun b z => absurd rfl z) fun z => absurd rfl z
  | none =>
    refine core (fun b => if b = a then some (.frz { cls := .type "list", data := .seq vs.toArray } (.lst (ns.map V.int))) else none) (fun b => ?_) (.inl (.inr ⟨{ cls := .type "list", data := .seq vs.toArray }, if_pos rfl⟩)) (fun b u z => ?_) (fun b z => ?_) fun _ => hk
    · by_cases hb : b = a
      · exact .inr ⟨_, _, if_pos hb⟩
      · exact .inl (if_neg hb)
    · by_cases hb : b = a
      · have z' := (if_pos hb).symm.trans z
        cases z'
        subst hb
        exact ⟨ha, by rw [List.length_map]; exact hl, vs, _, rv, ha⟩
      · have z' := (if_neg hb).symm.trans z
        cases z'
    · by_cases hb : b = a
      · exact hb
      · exact absurd (if_neg hb) z
end L2
namespace L2
open PySem PySem.Spec PyProof.Rows
abbrev KOf {K : PySem.W.Frag} {h : Heap} (_ : K.In h) : PySem.W.Frag := K
theorem walk_of {l : PySem.W.OpenLaw} {n k : Nat} {q : Program} {loose : List Str} {XP : (Str → Option Value) → Heap → Prop} {YP : World → Heap → Prop} {d : DefRec} {K : Params → PySem.W.Frag} {CX : World → CXT} {sp : World → Sp} {x : Str}
    (hn : l.most = some n) (hn2 : n ≤ sizeLine) (hdf : d.params.defaults = []) (hr : Room k callerA)
    (hY : ∀ (w : World) (h : Heap), YP w h → (K w.params).In h)
    (F : ∀ (w : World) (mg : Str → Option Value) (fa : Addr) (h : Heap), (K w.params).In h → h.Ns mainGlobals mg → mg d.name = some (.ref fa) →
      ∃ fd : FuncData, (∀ (s : Shared) (u : Value), BindsTo s fd ⟨[u], []⟩ [(x, u)]) ∧
        ∀ base : Heap, (K w.params).In base → base.Ns mainGlobals mg → FnOk l.prog w (K w.params) mg base (CX w) k fa fd [x] (sp w))
    (hsp : ∀ (w : World) (H : Hp) (a : Addr) (ns : List Int), ns.length ≤ n → Only H → SqL (K w.params) H a (ns.map V.int) → sp w [.ref a] H (fun v _ => v = .bl true) fun _ _ _ => False)
    (hCX : ∀ (w : World) (H : Hp) (s : Shared) (e : Value) (s' : Shared), CX w [] H s (fun _ _ _ => False) e s' → False) :
    PySem.W.WalkO q loose XP YP l.row.toRowW d [] (fun f vs => PySem.call f vs) := by
  refine Att.attach_call hn hdf fun w s₀ s₁ mg mb fa o pm cd doc a vs ns G Y ho hd hcd hmg hobj hints hlen hg => ?_
  have KX := hY w _ Y
  obtain ⟨fd, hb, hF⟩ := F w mg fa _ KX G.T.g hmg
  exact law_call KX G.T.g G.T.b G.T.builtins G.T.nolimit hg hobj hints (Nat.le_trans hlen hn2) hr hF hb (fun H hO hS => hsp w H a ns hlen hO hS) fun H e s' => hCX w H s₁ e s'
end L2
/- THE LAST THEOREM (shape; LID, My.* are yours):
   My.Adr: a structure of the addresses that your layer names (classes, functions); My.Txt K t: a structure (Prop) of the equations over K;
   My.txt_mk : {K} {implicit addresses ..} (e1 : nsIn K mainGlobals "law" = some (some (.ref f))) (e2 : K.lookup f = some ⟨oc, od, .func (fnOf "law" "law" params body scope dV kV doc pm an cdv ct), sl⟩) (e3 : codeIn K cdv "law" = true) .. : ∃ t, My.Txt K t
set_option maxRecDepth 100000 in
set_option maxHeartbeats 0 in
theorem PySem.Challenge.cw_LID_holds : PySem.Challenge.rw_LID.Holds := by
  w_on; o_law; k_head; (case hw => w_witness2)
  k_fill
  refine L2.walk_of (l := PySem.Challenge.rw_LID) (n := 63) (k := 40) (x := "script") (CX := fun w => ..) (sp := fun _ => My.sp_law) rfl (by decide) rfl ⟨rfl, by decide, by decide⟩ (fun w h Y => PySem.W.kIn_of Y) ?F ?S ?C
  case F =>
    intro w mg fa h KX G hmg
    have T : ∃ t, My.Txt (L2.KOf KX) t := by
      dsimp only [L2.KOf]                          -- K must stand as «<heap const> w.params» for k_is
      refine' My.txt_mk ?e1 ?e2 ?e3 ..
      (case e1 => PySem.W.k_is)                    -- in the order: a name -> its address -> its object -> its parts
      (case e2 => PySem.W.k_is)
      ..
    obtain ⟨t, T⟩ := T
    have e0 := hmg.symm.trans (PySem.W.mg_of KX G T.law)
    cases e0                                       -- fa is the law's own address
    exact ⟨_, fun s u => .of_eq rfl, fun base kb nb => My.law_fn T kb nb⟩     -- if «.of_eq rfl» comes too early: refine' ⟨_, ?b, fun base kb nb => My.law_fn T kb nb⟩; exact fun s u => .of_eq rfl
  case S => exact fun w H a ns hl hO hS => ..
  case C => exact ..
(the tactic k_is has no namespace: write k_is) -/
namespace L2
open PySem PySem.Spec PyProof.Rows
def inClass (s : Stmt) (j : Nat) : Stmt := match s with
  | .ClassDef _ _ _ body _ _ _ _ _ _ _ => body.getD j (.Pass ⟨0, 0, 0, 0⟩)
  | _ => .Pass ⟨0, 0, 0, 0⟩
def defArgs (s : Stmt) : Arguments := match s with
  | .FunctionDef _ a _ _ _ _ _ _ _ _ => a
  | _ => { posonlyargs := [], args := [], vararg := none, kwonlyargs := [], kw_defaults := [], kwarg := none, defaults := [] }
def defBody (s : Stmt) : List Stmt := match s with
  | .FunctionDef _ _ b _ _ _ _ _ _ _ => b
  | _ => []
def defScope (s : Stmt) : Scope := match s with
  | .FunctionDef _ _ _ _ _ _ sc _ _ _ => sc
  | _ => { kind := .function, names := [], isGenerator := false, isCoroutine := false }
abbrev CX0 : CXT := fun _ _ _ _ _ _ => False
abbrev E0 : XK := fun _ _ _ => False
theorem pass0 {X : Cx} : Passes CX0 X E0 := fun _ _ _ _ _ _ _ h => h.elim
structure Fun (K : PySem.W.Frag) (x qual : Str) (st : Stmt) (f : Addr) (fd : FuncData) : Prop where
  ex : ∃ (oc : Value) (od : Option Addr) (kV doc pm : Value) (an : Option Addr) (cdv ct : Value) (osl : Array (Option Value)),
    fd = PySem.W.fnOf x qual (defArgs st) (defBody st) (defScope st) .none kV doc pm an cdv ct ∧ K.lookup f = some ⟨oc, od, .func fd, osl⟩ ∧ PySem.W.codeIn K cdv qual = true
  kp : PySem.W.keepIn K (.ref f) = true
section
variable {P : Program} {w : World} {K : PySem.W.Frag} {mg : Str → Option Value} {base : Heap}
theorem Fun.ok {x qual : Str} {st : Stmt} {f : Addr} {fd : FuncData} {N ps : List Str} {k : Nat} {sp : Sp} (F : Fun K x qual st f fd) (S : FnScope N ps (defScope st)) (len : ∀ vs H Q E, sp vs H Q E → vs.length = ps.length)
    (hbody : ∀ (cdv : Value) (A : Around) (outer : List Env) (s : Shared) (H : Hp) (vs : List V) (Q : VK) (E : XK), Room k (A.deeper (envOfC qual (defScope st) s.heap.objs.size f cdv)) → sp vs H Q E →
      ∃ t, PSs (cxOf CX0 P w K mg base N qual (defScope st) f cdv A outer s H E).nox (defBody st) t ∧ t { nx := fun _ H' => Q .non H', rt := Q } (start N vs) H) : FnOk P w K mg base CX0 (k + 1) f fd ps sp := by
  obtain ⟨oc, od, kV, doc, pm, an, cdv, ct, osl, rfl, lk, hcd⟩ := F.ex
  refine fn_of lk hcd S len fun A outer s H vs Q E hr hsp => ?_
  obtain ⟨t, h, q⟩ := hbody cdv A outer s H vs Q E hr hsp
  exact ⟨t, h.nox, q⟩
theorem Fun.binds {x qual : Str} {st : Stmt} {f : Addr} {fd : FuncData} {ps : List Str} (F : Fun K x qual st f fd)
    (h : ∀ (kV doc pm : Value) (an : Option Addr) (cdv ct : Value) (us : List Value), us.length = ps.length → bindArgs (PySem.W.fnOf x qual (defArgs st) (defBody st) (defScope st) .none kV doc pm an cdv ct) ⟨us, []⟩ = pure (ps.zip us)) : Binds K fd ps [] := by
  obtain ⟨oc, od, kV, doc, pm, an, cdv, ct, osl, rfl, lk, hcd⟩ := F.ex
  exact .all (h kV doc pm an cdv ct)
theorem fun_mk {x qual : Str} {st : Stmt} {f : Addr} {oc : Value} {od an : Option Addr} {osl : Array (Option Value)} {kV doc pm cdv ct : Value} (l : K.lookup f = some ⟨oc, od, .func (PySem.W.fnOf x qual (defArgs st) (defBody st) (defScope st) .none kV doc pm an cdv ct), osl⟩)
    (c : PySem.W.codeIn K cdv qual = true) (k : PySem.W.keepIn K (.ref f) = true) : Fun K x qual st f (PySem.W.fnOf x qual (defArgs st) (defBody st) (defScope st) .none kV doc pm an cdv ct) := ⟨⟨oc, od, kV, doc, pm, an, cdv, ct, osl, rfl, l, c⟩, k⟩
end
section
variable {X : Cx}
theorem pv (i : Nat) {x : Str} {pos : Pos} (hN : X.N[i]? = some x := by rfl) (hv : Vis X.env.scope x := by first | exact Or.inl rfl | exact Or.inr (Or.inl rfl) | exact Or.inr (Or.inr rfl)) (hd : (x == ("__debug__" : Str)) = false := by decide)
    (hcd : (x == ("__classdict__" : Str)) = false := by decide) : PE X (.Name x pos) (tVar i) := pe_var hN hv hd hcd
end
theorem iteF {A B : Prop} (h : B) : if false = true then A else B := by
  rw [if_neg Bool.false_ne_true]
  exact h
theorem iteT {A B : Prop} (h : A) : if true = true then A else B := by
  rw [if_pos rfl]
  exact h
theorem ite2 {c A B : Prop} [Decidable c] (h1 : c → A) (h2 : ¬ c → B) : if c then A else B := by
  by_cases h : c
  · rw [if_pos h]
    exact h1 h
  · rw [if_neg h]
    exact h2 h
def Same (H H' : Hp) : Prop := ∀ b o, H b = some o → H' b = some o
theorem Same.refl (H : Hp) : Same H H := fun _ _ h => h
theorem Same.trans {H H1 H2 : Hp} (a : Same H H1) (b : Same H1 H2) : Same H H2 := fun c o h => b c o (a c o h)
theorem Same.free {H H' : Hp} (e : Same H H') {l : Addr} (h : H' l = Option.none) : H l = Option.none := by
  cases q : H l with
  | none => rfl
  | some o =>
    rw [e l o q] at h
    cases h
theorem Same.seq {K : PySem.W.Frag} {H H' : Hp} {a : Addr} {xs : List V} (e : Same H H') (h : SqL K H a xs) : SqL K H' a xs := by
  rcases h with (h | ⟨o, h⟩) | h
  · exact .inl (.inl (e _ _ h))
  · exact .inl (.inr ⟨o, e _ _ h⟩)
  · exact .inr h
end L2
namespace L2
open PySem PySem.Spec PyProof.Rows
theorem closure_go {env : Env} : ∀ (names : List (Str × NameKind)) (acc : List (Str × Addr)), (∀ y ∈ names, y.2 = NameKind.free → ∃ c, env.cells.lookup y.1 = some c) → (∀ y c, acc.lookup y = some c → env.cells.lookup y = some c) →
    ∃ cl, (forIn names acc fun (x : Str × NameKind) (r : List (Str × Addr)) => (if x.2 == NameKind.free then do let a ← cellOf env x.1; pure (ForInStep.yield ((x.1, a) :: r)) else pure (ForInStep.yield r) : Sem (ForInStep (List (Str × Addr))))) = pure cl ∧
      (∀ y c, cl.lookup y = some c → env.cells.lookup y = some c) ∧ (∀ y, (∃ c, acc.lookup y = some c) → ∃ c, cl.lookup y = some c) ∧ ∀ y, (y, NameKind.free) ∈ names → ∃ c, cl.lookup y = some c
  | [], acc, _, ha => ⟨acc, rfl, ha, fun _ h => h, fun _ h => by cases h⟩
  | (n, k) :: r, acc, hf, ha => by
    by_cases hk : k = NameKind.free
    · subst hk
      obtain ⟨c, hc⟩ := hf (n, .free) List.mem_cons_self rfl
      have ha' : ∀ y c', ((n, c) :: acc).lookup y = some c' → env.cells.lookup y = some c' := fun y c' h => by
        rw [List.lookup_cons] at h
        cases e : y == n with
        | true =>
          rw [e] at h
          cases h
          have e' : y = n := by simpa using e
          rw [e']; exact hc
        | false => rw [e] at h; exact ha y c' h
      obtain ⟨cl, h1, h2, h3, h4⟩ := closure_go r ((n, c) :: acc) (fun y hy => hf y (List.mem_cons_of_mem _ hy)) ha'
      refine ⟨cl, ?_, h2, fun y hy => h3 y ?_, fun y hy => ?_⟩
      · rw [List.forIn_cons]
        simp only [beq_self_eq_true, if_true, cellOf, hc, pure_bind]
        exact h1
      · rw [List.lookup_cons]
        cases e : y == n with
        | true => exact ⟨c, rfl⟩
        | false => exact hy
      · rcases List.mem_cons.mp hy with e | hy
        · cases e
          exact h3 n ⟨c, by rw [List.lookup_cons, beq_self_eq_true]⟩
        · exact h4 y hy
    · have hb : (k == NameKind.free) = false := by simpa using hk
      obtain ⟨cl, h1, h2, h3, h4⟩ := closure_go r acc (fun y hy => hf y (List.mem_cons_of_mem _ hy)) ha
      refine ⟨cl, ?_, h2, h3, fun y hy => ?_⟩
      · rw [List.forIn_cons]
        simp only [hb, Bool.false_eq_true, if_false, pure_bind]
        exact h1
      · rcases List.mem_cons.mp hy with e | hy
        · cases e; exact absurd rfl hk
        · exact h4 y hy
theorem closure_of {scope : Scope} {env : Env} (h : ∀ y ∈ scope.names, y.2 = NameKind.free → ∃ c, env.cells.lookup y.1 = some c) :
    ∃ cl, closureFor scope env = pure cl ∧ (∀ y c, cl.lookup y = some c → env.cells.lookup y = some c) ∧ ∀ y, (y, NameKind.free) ∈ scope.names → ∃ c, cl.lookup y = some c := by
  obtain ⟨cl, h1, h2, _, h4⟩ := closure_go scope.names [] h (fun y c z => by simp at z)
  refine ⟨cl, ?_, h2, h4⟩
  have e : closureFor scope env = ((forIn scope.names ([] : List (Str × Addr)) fun (x : Str × NameKind) (r : List (Str × Addr)) => (if x.2 == NameKind.free then do let a ← cellOf env x.1; pure (ForInStep.yield ((x.1, a) :: r)) else pure (ForInStep.yield r) : Sem (ForInStep (List (Str × Addr))))) >>= fun cs => pure cs) := rfl
  rw [e, h1]
  rfl
structure CompOk (N : List Str) (fs scope : Scope) (x : Str) : Prop where
  kind : scope.kind = .function
  cell : ∀ y ∈ scope.names, y.2 ≠ NameKind.cell
  free : ∀ y ∈ scope.names, y.2 = NameKind.free → fs.names.lookup y.1 = some .cell ∨ fs.names.lookup y.1 = some .free
  locs : ∀ y ∈ scope.names, y.2 = NameKind.local → scope.names.lookup y.1 = some .local ∧ y.1 ∉ N
  own : scope.names.lookup x = some .local
def compOk (N : List Str) (fs scope : Scope) (x : Str) : Bool :=
  decide (scope.kind = .function) && scope.names.all (fun y => decide (y.2 ≠ NameKind.cell) && (decide (y.2 ≠ NameKind.free) || decide (fs.names.lookup y.1 = some .cell) || decide (fs.names.lookup y.1 = some .free)) &&
    (decide (y.2 ≠ NameKind.local) || (decide (scope.names.lookup y.1 = some .local) && decide (y.1 ∉ N)))) && decide (scope.names.lookup x = some .local)
theorem CompOk.of {N : List Str} {fs scope : Scope} {x : Str} (h : compOk N fs scope x = true) : CompOk N fs scope x := by
  unfold compOk at h
  simp only [Bool.and_eq_true, Bool.or_eq_true, decide_eq_true_eq, List.all_eq_true] at h
  obtain ⟨⟨h1, h2⟩, h3⟩ := h
  refine ⟨h1, fun y hy => (h2 y hy).1.1, fun y hy e => ?_, fun y hy e => ?_, h3⟩
  · rcases (h2 y hy).1.2 with (z | z) | z
    · exact absurd e z
    · exact .inl z
    · exact .inr z
  · rcases (h2 y hy).2 with z | z
    · exact absurd e z
    · exact z
def compCx (X : Cx) (x : Str) (scope : Scope) (cl : List (Str × Addr)) (C : Addr) (fp : List Addr) (s₀ : Shared) (H₀ : Hp) : Cx :=
  { X with N := X.N ++ [x], s₀ := s₀, H₀ := H₀, env := compEnvC scope cl C X.env, outer := X.stack, stack := X.stack, ex := fp, fn := fun _ => false, pn := [], xe := fun _ _ => False }
theorem lookup_map_kind {f : Str × NameKind → NameKind} {y : Str} : ∀ {l : List (Str × NameKind)} {k : NameKind}, (l.map fun p => (p.1, f p)).lookup y = some k → ∃ k0, (y, k0) ∈ l ∧ l.lookup y = some k0 ∧ k = f (y, k0)
  | [], _, h => by simp at h
  | (n, k0) :: r, k, h => by
    rw [List.map_cons, List.lookup_cons] at h
    cases e : y == n with
    | true =>
      rw [e] at h
      have e' : y = n := by simpa using e
      subst e'
      cases h
      exact ⟨k0, List.mem_cons_self, by rw [List.lookup_cons, e], rfl⟩
    | false =>
      rw [e] at h
      obtain ⟨k1, h1, h2, h3⟩ := lookup_map_kind h
      exact ⟨k1, List.mem_cons_of_mem _ h1, by rw [List.lookup_cons, e]; exact h2, h3⟩
theorem relabel_kind {scope : Scope} {env : Env} {y : Str} {k : NameKind} (h : (relabel scope env).names.lookup y = some k) :
    (scope.names.lookup y = some k ∧ (y, k) ∈ scope.names) ∨ (k = .cell ∧ scope.names.lookup y = some .free ∧ (y, NameKind.free) ∈ scope.names) := by
  have e : (relabel scope env).names = scope.names.map fun p => (p.1, (fun (q : Str × NameKind) => if (q.2 == NameKind.free && env.scope.kind == .function && env.kindOf q.1 == some .cell) = true then NameKind.cell else q.2) p) := by
    unfold relabel
    refine List.map_congr_left fun p _ => ?_
    obtain ⟨n, k⟩ := p
    dsimp only
    split <;> rfl
  rw [e] at h
  obtain ⟨k0, h1, h2, h3⟩ := lookup_map_kind h
  dsimp only at h3
  split at h3
  · rename_i c
    simp only [Bool.and_eq_true, beq_iff_eq] at c
    obtain ⟨⟨c1, _⟩, _⟩ := c
    subst c1
    exact .inr ⟨h3, h2, h1⟩
  · subst h3
    exact .inl ⟨h2, h1⟩
section
variable {X : Cx} {pins : List (Addr × Obj)} {σ : St} {H : Hp} {s : Shared}
theorem comp_inv {x : Str} {scope : Scope} {cl : List (Str × Addr)} {C : Addr} {fp : List Addr} {s' : Shared} (I : Inv X pins σ H s) (ok : CompOk X.N X.env.scope scope x)
    (c1 : ∀ y c, cl.lookup y = some c → X.env.cells.lookup y = some c) (c2 : ∀ y, (y, NameKind.free) ∈ scope.names → ∃ c, cl.lookup y = some c) (hf : ∀ b ∈ fp, FpOk X pins H b)
    (hC : s.heap.objs.size ≤ C) (hn : s'.heap.Ns C fun _ => none) (hk : ∀ b o, s.heap.get? b = some o → s'.heap.get? b = some o) (ho : s'.os = s.os) (hg : s'.gens = s.gens) (hfs : ∀ b ∈ fp, b < s.heap.objs.size) :
    Inv (compCx X x scope cl C fp s H) [] (σ ++ [none]) H s' := by
  have fresh : H C = none := I.hok.fresh hC
  have CneC : ∀ y c, cl.lookup y = some c → c ≠ C := fun y c e z => by
    obtain ⟨v, q⟩ := I.cell y c (c1 y c e)
    exact absurd (Nat.lt_of_lt_of_le q.lt (by rw [z]; exact hC)) (Nat.lt_irrefl _)
  refine ⟨⟨I.ok.mod, ok.kind, I.ok.glob, I.ok.blt, hC, fun y z c h1 h2 => I.ok.inj y z c (c1 y c h1) (c1 z c h2), fun y hy => ?_, fun y c z => ?_, I.ok.hd, I.ok.frames, .inl rfl, fun b hb => ⟨?_, fun y c e => (hf b hb).2.2.2.2.1 y c (c1 y c e)⟩,
      I.bs, Nat.le_trans I.ok.bsz I.sz, fun b o e hb => ?_, fun b hb hb2 => ?_, I.stack, I.stkFree⟩,
    ho, by rw [hg]; exact I.bare, Un.kept hk, ⟨_, hn, fun i y v h1 h2 h3 => ?_⟩, fun y c e => ?_, fresh, fun y c e => I.freeC y c (c1 y c e), fun p hp => absurd (show p ∈ ([] : List (Addr × Obj)) from hp) (by simp), I.hok.kept hk, ?_⟩
  · -- has
    have hy : (relabel scope X.env).names.lookup y = some .cell ∨ (relabel scope X.env).names.lookup y = some .free := hy
    have hm : (y, NameKind.free) ∈ scope.names := by
      rcases hy with hy | hy
      · rcases relabel_kind hy with ⟨_, z⟩ | ⟨_, _, z⟩
        · exact absurd rfl (ok.cell _ z)
        · exact z
      · rcases relabel_kind hy with ⟨_, z⟩ | ⟨_, _, z⟩
        · exact z
        · exact z
    exact c2 y hm
  · exact absurd (show false = true from z) (by decide)
  · exact Nat.ne_of_lt (Nat.lt_of_lt_of_le (hfs b hb) hC)
  · -- noex
    rcases (hf b hb).2.2.2.1 with z | z
    · exact I.ok.noex b o e z
    · exact absurd (Nat.lt_of_lt_of_le (Heap.lt_size (I.ok.bs b o e).1) z) (Nat.lt_irrefl _)
  · -- exfs
    have hb2 : b ∈ frs X.stack := hb2
    rcases List.mem_cons.mp (I.stkSub b hb2) with z | z
    · exact (hf b hb).2.1 z
    · exact (hf b hb).2.2.1 z
  · -- a name that is seen in the block is one of the function's cells
    have hy : (relabel scope X.env).names.lookup y = some .local ∨ (relabel scope X.env).names.lookup y = some .cell ∨ (relabel scope X.env).names.lookup y = some .free := h3
    have h1 : (X.N ++ [x])[i]? = some y := h1
    by_cases hi : i < X.N.length
    · have e1 : X.N[i]? = some y := by rw [List.getElem?_append_left hi] at h1; exact h1
      have e2 : σ[i]? = some (some v) := by rw [List.getElem?_append_left (by rw [I.len]; exact hi)] at h2; exact h2
      have hyN : y ∈ X.N := List.mem_of_getElem? e1
      have hm : ((y, NameKind.free) ∈ scope.names) ∧ ((relabel scope X.env).names.lookup y = some .cell ∨ (relabel scope X.env).names.lookup y = some .free) := by
        rcases hy with hy | hy | hy
        · rcases relabel_kind hy with ⟨_, z⟩ | ⟨z, _⟩
          · exact absurd hyN (ok.locs _ z rfl).2
          · cases z
        · rcases relabel_kind hy with ⟨_, z⟩ | ⟨_, _, z⟩
          · exact absurd rfl (ok.cell _ z)
          · exact ⟨z, .inl hy⟩
        · rcases relabel_kind hy with ⟨_, z⟩ | ⟨_, _, z⟩
          · exact ⟨z, .inr hy⟩
          · exact ⟨z, .inr hy⟩
      obtain ⟨c, hc⟩ := c2 y hm.1
      obtain ⟨m, _, hl⟩ := I.loc
      have hv : Vis X.env.scope y := by
        rcases ok.free _ hm.1 rfl with z | z
        · exact .inr (.inl z)
        · exact .inr (.inr z)
      obtain ⟨u, r, l⟩ := hl i y v e1 e2 hv
      refine ⟨u, r, .inr ⟨hm.2, c, hc, ?_⟩⟩
      rcases l with ⟨kl, _⟩ | ⟨_, c', e', q⟩
      · have kl : X.env.scope.names.lookup y = some .local := kl
        rcases ok.free _ hm.1 rfl with z | z
        · rw [kl] at z; cases z
        · rw [kl] at z; cases z
      · rw [c1 y c hc] at e'
        cases e'
        obtain ⟨oc, hoc, hd⟩ := q
        exact ⟨oc, hk _ _ hoc, hd⟩
    · rw [List.getElem?_append_right (by rw [I.len]; omega)] at h2
      have : i - σ.length = 0 ∨ 1 ≤ i - σ.length := by omega
      rcases this with z | z
      · rw [z] at h2; cases h2
      · rw [List.getElem?_eq_none (by simpa using z)] at h2; cases h2
  · obtain ⟨v, oc, hoc, hd⟩ := I.cell y c (c1 y c e)
    exact ⟨v, oc, hk _ _ hoc, hd⟩
  · show (σ ++ [none]).length = (X.N ++ [x]).length
    rw [List.length_append, List.length_append, I.len] <;> rfl
end
end L2
namespace L2
open PySem PySem.Spec PyProof.Rows
def PTs (X : Cx) (ifs : List Expr) (t : TT) : Prop :=
  ∀ (pins : List (Addr × Obj)) (s : Shared) (σ : St) (H : Hp) (Q : Bool → Hp → Prop), Inv X pins σ H s → t σ H Q →
    wpAny (model X.prog X.w) X.A (forIn ifs true fun c r => if r = true then do let ok ← isTrue c X.env (eval c X.env); pure (ForInStep.yield ok) else pure (ForInStep.yield r)) (TP X pins σ Q) X.xe s
def tYes : TT := fun _ H Q => Q true H
theorem pts_nil {X : Cx} : PTs X [] tYes := fun _ _ _ H _ I h => wpAny_tests_nil ⟨H, I, h⟩
theorem thnF {α : Type} {t : Sem α} {Q Q' : α → Shared → Prop} {M : Model} {A : Around} {E : Value → Shared → Prop} {s : Shared} (h : wpAny M A t Q (fun _ _ => False) s) (hQ : ∀ a s, Q a s → Q' a s) : wpAny M A t Q' E s := wpAny_mono h hQ fun _ _ x => x.elim
def CompRd (J : It) (tt : TT) (te : TE) (fin : List V → Hp → Prop) (σ : St) (H : Hp) : Prop :=
  ∃ W : Nat → Nat → List V → Hp → Prop, (∃ m, W 0 m [] H) ∧ ∀ i m ys H, W i m ys H →
    (J.stop i H ∧ fin ys H) ∨ (J.go i H ∧ ∀ x H', J.yld i H x H' → tt (σ ++ [some x]) H' fun b H2 =>
      if b = true then te (σ ++ [some x]) H2 fun y H3 => ys.length < sizeLine ∧ ∃ m', m' < m ∧ W (i + 1) m' (ys ++ [y]) H3 else ∃ m', m' < m ∧ W (i + 1) m' ys H2)
def listAt (its : List Value) (c : Nat) : Obj := { cls := .type "list", data := .seq its.toArray c }
section
variable {X : Cx} {pins : List (Addr × Obj)} {σ : St} {H : Hp} {s : Shared} {E : Value → Shared → Prop}
theorem comp_core {elt iter : Expr} {x : Str} {px : Pos} {ifs : List Expr} {scope : Scope} {pos : Pos} {cl : List (Str × Addr)} {J : It} {it : Addr} {fp : List Addr} {tn : Nat → Heap → Prop} {tt : TT} {te : TE} {fin : List V → Hp → Prop}
    {RR : Value → Addr → Result → Shared → Prop} (I : Inv X pins σ H s) (hcalm : X.calm = true) (ok : CompOk X.N X.env.scope scope x) (hN : (X.N ++ [x]).Nodup)
    (c1 : ∀ y c, cl.lookup y = some c → X.env.cells.lookup y = some c) (c2 : ∀ y, (y, NameKind.free) ∈ scope.names → ∃ c, cl.lookup y = some c)
    (T : Turn X.prog X.w X.K (.Name x px) J fp it tn) (st : tn 0 s.heap) (hf : ∀ b ∈ fp, FpOk X pins H b)
    (ht : ∀ C fp s₀ H₀, PTs (compCx X x scope cl C fp s₀ H₀) ifs tt) (he : ∀ C fp s₀ H₀, PE (compCx X x scope cl C fp s₀ H₀) elt te) (rd : CompRd J tt te fin σ H)
    (hR : ∀ (D C : Addr) (ys : List V) (H' : Hp) (s' : Shared), H' D = none → fin ys H' → Inv X pins σ (upd H' D (.lst ys)) s' → (∃ m, s'.heap.Ns C m) → FpOk X pins (upd H' D (.lst ys)) C → RR (.ref D) C (.ok .next) s') :
    wpAny (model X.prog X.w) X.A (newList []) (fun acc s₃ => wpAny (model X.prog X.w) X.A (newFunctionEnv scope X.env.globals cl [] X.env.qual none .none (some X.env)) (fun cenv s₄ =>
      codeAny (model X.prog X.w) X.A (.compStart (.ListComp elt [⟨.Name x px, iter, ifs, 0⟩] scope pos) 0 (.ref it) acc { cenv with scope := relabel scope X.env }) (RR acc cenv.locals) s₄) E s₃) E s := by
  refine wpAny_newObj_type (wpAny_newFunctionEnv ok.cell (by intro y hy; simp at hy) (fun h₁ hns₁ hsb₁ => ?_) ok.kind)
  dsimp only at hns₁ hsb₁ ⊢
  generalize hH2 : s.heap.push { cls := .type "list", dict := none, data := .seq ([] : List Value).toArray } = H2 at hns₁ hsb₁ ⊢
  have hC : H2.objs.size = s.heap.objs.size + 1 := by rw [← hH2, Heap.size_push]
  have hDC : s.heap.objs.size ≠ H2.objs.size := by rw [hC]; exact Nat.ne_of_lt (Nat.lt_succ_self _)
  have hCle : s.heap.objs.size ≤ H2.objs.size := by rw [hC]; exact Nat.le_succ _
  have below : ∀ b, b < s.heap.objs.size → b ≠ H2.objs.size ∧ b ≠ s.heap.objs.size := fun b hb => ⟨by rw [hC]; exact Nat.ne_of_lt (Nat.lt_succ_of_lt hb), Nat.ne_of_lt hb⟩
  have old : ∀ b o, s.heap.get? b = some o → h₁.get? b = some o := fun b o e => hsb₁.extBut b o (below b (Heap.lt_size e)).1 (Heap.get?_push_of_some _ (hH2 ▸ Heap.get?_push_of_some _ e))
  have hD : h₁.get? s.heap.objs.size = some (listAt [] 0) := hsb₁.extBut _ _ hDC (Heap.get?_push_of_some _ (hH2 ▸ Heap.get?_push_size _ rfl))
  have hfs : ∀ b ∈ fp, b < s.heap.objs.size := fun b hb => let ⟨_, e, _⟩ := T.obj 0 _ st b hb; Heap.lt_size e
  have hns₂ : h₁.Ns H2.objs.size fun _ => none := by
    have e : (fun x => ([] : List (Str × Value)).reverse.lookup x) = fun _ => none := rfl
    rw [e] at hns₁
    exact hns₁
  obtain ⟨W, ⟨m0, w0⟩, turn⟩ := rd
  generalize hDD : s.heap.objs.size = D at *
  generalize hCC : H2.objs.size = C at *
  have Dle : s.heap.objs.size ≤ D := Nat.le_of_eq hDD
  have loop : ∀ s₃ : Shared, s₃ = { s with heap := h₁, toks := s.toks + ([] : List (Str × Value)).length } →
      codeAny (model X.prog X.w) X.A (.compLoop (.ListComp elt [⟨.Name x px, iter, ifs, 0⟩] scope pos) 0 (.ref it) (.ref D) (compEnvC scope cl C X.env)) (RR (.ref D) C) s₃ := by
    rintro s₃ rfl
    have I0 : Inv (compCx X x scope cl C fp s H) [] (σ ++ [none]) H { s with heap := h₁, toks := s.toks + ([] : List (Str × Value)).length } :=
      comp_inv I ok c1 c2 hf (by rw [hDD]; exact hCle) hns₂ old rfl rfl (fun b hb => by rw [hDD]; exact hfs b hb)
    have cellD : ∀ y c, cl.lookup y = some c → c ≠ D := fun y c e z => by
      obtain ⟨v, q⟩ := I.cell y c (c1 y c e)
      exact absurd q.lt (by rw [z, ← hDD]; exact Nat.lt_irrefl _)
    have stat : ∀ {H' : Hp} {pl : List (Addr × Obj)}, (∀ p ∈ pl, p.1 = D) → (∀ b ∈ fp, H' b = none) → ∀ b ∈ fp, FpOk (compCx X x scope cl C fp s H) pl H' b := fun {H' pl} hpl hn b hb =>
      ⟨hn b hb, (below b (hfs b hb)).1, fun hb2 => by
        have hb2 : b ∈ frs X.stack := hb2
        rcases List.mem_cons.mp (I.stkSub b hb2) with z | z
        · exact (hf b hb).2.1 z
        · exact (hf b hb).2.2.1 z, .inl hb, fun y c e => (hf b hb).2.2.2.2.1 y c (c1 y c e), fun p hp => by
          have hp : p ∈ [] ++ pl := hp
          rw [hpl p (by simpa using hp)]
          exact Ne.symm (below b (hfs b hb)).2⟩
    have pinD : ∀ {σ' : St} {H' : Hp} {s' : Shared} {its : List Value} {c : Nat}, Inv (compCx X x scope cl C fp s H) [] σ' H' s' → s'.heap.get? D = some (listAt its c) → H' D = none → Inv (compCx X x scope cl C fp s H) [(D, listAt its c)] σ' H' s' := fun {σ' H' s' its c} I' e n =>
      I'.pins_of fun p hp => by
        have hp : p = (D, listAt its c) := by simpa using hp
        subst hp
        refine ⟨e, n, hDC, fun hb2 => ?_, fun v z => by cases z⟩
        have hb2 : D ∈ frs X.stack := hb2
        rcases List.mem_cons.mp (I.stkSub D hb2) with z | z
        · exact absurd I.lt (by rw [← z, ← hDD]; exact Nat.lt_irrefl _)
        · exact I.nofs Dle z
    refine codeAny_compLoop_tests (fun n s' => ∃ i v H' ys its c, Inv (compCx X x scope cl C fp s H) [] (σ ++ [v]) H' s' ∧ tn i s'.heap ∧ (∀ b ∈ fp, H' b = none) ∧ s'.heap.get? D = some (listAt its c) ∧ H' D = none ∧ Vals ys its ∧ ys.length ≤ sizeLine ∧ W i n ys H')
      ?_ m0 ⟨0, none, H, [], [], 0, I0, T.keep 0 _ _ st fun b _ o e => old b o e, fun b hb => (hf b hb).1, hD, I.hok.fresh Dle, .nil, Nat.zero_le _, w0⟩
    rintro n s' ⟨i, v, H', ys, its, c, I1, st1, fr1, e1, n1, r1, z1, w1⟩
    have I1p := pinD I1 e1 n1
    have fok1 := stat (H' := H') (pl := [(D, listAt its c)]) (fun p hp => by simp at hp; rw [hp]) fr1
    rcases turn i n ys H' w1 with ⟨stop, qf⟩ | ⟨go, step⟩
    · refine thn (T.done (compCx X x scope cl C fp s H) rfl rfl rfl hcalm i _ s' _ H' _ I1p fok1 st1 stop) fun r s2 ⟨hr, I2⟩ => ?_
      subst hr
      obtain ⟨e2, n2, _⟩ := I2.pin (D, listAt its c) (List.mem_append_right _ (by simp))
      have u2 : Un (frs X.stack) fp H H' s.heap s2.heap := I2.base
      have neD : ∀ b o, s.heap.get? b = some o → b ≠ D := fun b o e => (below b (by rw [← hDD]; exact Heap.lt_size e)).2
      have tD : ∀ b o, H' b = some o → b ≠ D := fun b o e z => by rw [z, n1] at e; cases e
      have hok2 : HOk X.prog X.w (upd H' D (.lst ys)) s2.heap := fun b o e => by
        by_cases hb : b = D
        · subst hb
          rw [upd_same] at e
          cases e
          exact ⟨z1, its, c, r1, e2⟩
        · rw [upd_ne hb] at e
          exact (I2.hok b o e).stay (fun _ _ _ q => q) (fun d q => by rw [upd_ne (tD d _ q)]; exact q) fun d xs q => by rw [upd_ne (tD d _ q)]; exact q
      have I3 : Inv X pins σ (upd H' D (.lst ys)) s2 := I.call' (ch := fp) (show s2.os = s.os from I2.os)
        ⟨u2.keep, u2.slot, fun b o e n hx => by rw [upd_ne (neD b o e)]; exact u2.free b o e n hx, u2.there, fun b xs e => by
          have q := u2.tups b xs e
          rw [upd_ne (tD b _ q)]; exact q, fun b o u e => by
          have q := u2.frzs b o u e
          rw [upd_ne (tD b _ q)]; exact q, fun b ps e => by
          obtain ⟨more, q⟩ := u2.tbls b ps e
          exact ⟨more, by rw [upd_ne (tD b _ q)]; exact q⟩⟩ hok2 I2.bare (fun b hb => ⟨(hf b hb).2.2.2.1, (hf b hb).2.1, (hf b hb).2.2.2.2.1, (hf b hb).2.2.2.2.2⟩)
      obtain ⟨m2, hm2, _⟩ := I2.loc
      exact hR D C ys H' s2 n1 qf I3 ⟨m2, hm2⟩ (I.fpOk (by rw [hDD]; exact hCle) (by rw [upd_ne (Ne.symm hDC)]; exact I2.free))
    · refine thn (T.item (compCx X x scope cl C fp s H) rfl rfl rfl hcalm i _ s' _ H' _ I1p fok1 st1 go) fun r s2 ⟨u, hr, h2⟩ => ?_
      subst hr
      have ea : assign (.Name x px) (compEnvC scope cl C X.env) u = (letOwnedTupleGo (.Name x px) (.ref it) u >>= fun _ => assign (.Name x px) (compEnvC scope cl C X.env) u) := rfl
      show wpAny _ _ (assign (.Name x px) (compEnvC scope cl C X.env) u) _ _ s2
      rw [ea]
      refine wpAny_bind (thn h2 fun _ s3 ⟨y, H3, I3, ry, yl, st3, fr3⟩ => ?_)
      obtain ⟨e3, n3, _⟩ := I3.pin (D, listAt its c) (List.mem_append_right _ (by simp))
      have I3p := I3.pinned (stat (pl := [(D, listAt its c)]) (fun p hp => by simp at hp; rw [hp]) fr3) (T.obj _ _ st3)
      have hxl : (relabel scope X.env).names.lookup x = some .local := lookup_relabel_local ok.own
      have hxi : (X.N ++ [x])[X.N.length]? = some x := by rw [List.getElem?_append_right (Nat.le_refl _), Nat.sub_self] <;> rfl
      have hset : (σ ++ [v]).set X.N.length (some y) = σ ++ [some y] := by
        rw [← I.len, List.set_append_right _ _ (Nat.le_refl _), Nat.sub_self] <;> rfl
      refine thnF (pg_name (X := compCx X x scope cl C fp s H) (i := X.N.length) (x := x) hN hxi (.inl hxl) (.inr hxl) _ s3 _ H3 y u (fun σ' H' => σ' = σ ++ [some y] ∧ H' = H3) I3p ry ⟨hset, rfl⟩) fun _ s4 ⟨σ4, H4, I4, hσ, hH⟩ => ?_
      subst hσ hH
      have back : ∀ {H6 : Hp} {s6 : Shared} {its' : List Value} {c' : Nat}, Inv (compCx X x scope cl C fp s H) (pinsAt fp s3.heap) (σ ++ [some y]) H6 s6 → s6.heap.get? D = some (listAt its' c') → H6 D = none → ∀ {ys' : List V} {m' : Nat}, Vals ys' its' → ys'.length ≤ sizeLine → m' < n → W (i + 1) m' ys' H6 →
          ∃ m, m < n ∧ ∃ i v H' ys its c, Inv (compCx X x scope cl C fp s H) [] (σ ++ [v]) H' s6 ∧ tn i s6.heap ∧ (∀ b ∈ fp, H' b = none) ∧ s6.heap.get? D = some (listAt its c) ∧ H' D = none ∧ Vals ys its ∧ ys.length ≤ sizeLine ∧ W i m ys H' :=
        fun {H6 s6 its' c'} I6 e6 n6 {ys' m'} r6 z6 lt6 w6 => by
          refine ⟨m', lt6, i + 1, some y, H6, ys', its', c', I6.pins_of (fun p hp => by simp at hp), T.keep _ _ _ st3 fun b hb o e => (I6.pin (b, o) (List.mem_append_right _ (mem_pinsAt hb e))).1, fun b hb => ?_, e6, n6, r6, z6, w6⟩
          obtain ⟨o, e, _⟩ := T.obj _ _ st3 b hb
          exact (I6.pin (b, o) (List.mem_append_right _ (mem_pinsAt hb e))).2.1
      refine thnF (ht C fp s H _ s4 _ H4 _ I4 (step y H4 yl)) fun b s5 ⟨H5, I5, q5⟩ => ?_
      obtain ⟨e5, n5, _⟩ := I5.pin (D, listAt its c) (List.mem_append_right _ (by simp))
      cases b with
      | false =>
        obtain ⟨m', lt, w5⟩ := (show ∃ m', m' < n ∧ W (i + 1) m' ys H5 from q5)
        exact back (I5.pins_of fun p hp => I5.pin p (List.mem_append_right _ (List.mem_append_right _ hp))) e5 n5 r1 z1 lt w5
      | true =>
        refine thnF (he C fp s H _ s5 _ H5 _ I5 q5) fun yv s6 ⟨z, H6, I6, rz, hl6, m', lt, w6⟩ => ?_
        obtain ⟨e6, n6, _⟩ := I6.pin (D, listAt its c) (List.mem_append_right _ (by simp))
        have hlen := r1.length
        refine call_meets F.slot_list_append ⟨_, e6, rfl⟩ F.entry_list_append (F.args_list_append_2 _ _) (PySem.list_append D its.toArray c yv (by rw [List.size_toArray]; omega)) ⟨e6, ?_⟩
        have q := PySem.IsL.update e6 (·.push yv)
        have I6' : Inv (compCx X x scope cl C fp s H) (pinsAt fp s3.heap) (σ ++ [some y]) H6 s6 := I6.pins_of fun p hp => I6.pin p (List.mem_append_right _ (List.mem_append_right _ hp))
        have I7 : Inv (compCx X x scope cl C fp s H) (pinsAt fp s3.heap) (σ ++ [some y]) H6 { s6 with heap := s6.heap.update D (Obj.mapSeq (·.push yv)) } :=
          I6'.turned (it := D) (t' := s6.toks) (fun b o hb e => (Heap.get?_update_other s6.heap (Obj.mapSeq (·.push yv)) (Ne.symm hb)).trans e) n6 hDC (.inr Dle) (fun y c e => cellD y c e) (fun p hp => by
            have hp : p ∈ [] ++ pinsAt fp s3.heap := hp
            obtain ⟨hb, _⟩ := of_pinsAt (show p ∈ pinsAt fp s3.heap by simpa using hp)
            exact (below _ (hfs _ hb)).2)
        exact back I7 (its' := its ++ [yv]) (by
          have q' := q
          simp only [List.push_toArray] at q'
          exact q') n6 (r1.append (.cons rz .nil)) (by rw [List.length_append, List.length_singleton]; omega) lt w6
  exact codeAny_compStart_list (loop _ rfl) (T.self X.A 0 _ _ _ (T.keep 0 _ _ st fun b _ o e => old b o e) (loop _ rfl))
def tComp (wi : TI) (tt : TT) (te : TE) : TE := fun σ H Q => wi σ H fun J H1 => CompRd J tt te (fun ys H2 => ∀ p, H2 p = none → Q (.ref p) (upd H2 p (.lst ys))) σ H1
theorem pe_comp {elt iter : Expr} {x : Str} {px : Pos} {ifs : List Expr} {scope : Scope} {pos : Pos} {wi : TI} {tt : TT} {te : TE} (N : List Str) (fs : Scope) (hcalm : X.calm = true) (ok : compOk N fs scope x = true) (hN : (N ++ [x]).Nodup) (hi : PI X (.Name x px) iter wi)
    (ht : ∀ cl C fp s₀ H₀, PTs (compCx X x scope cl C fp s₀ H₀) ifs tt) (he : ∀ cl C fp s₀ H₀, PE (compCx X x scope cl C fp s₀ H₀) elt te)
    (hs : ∀ x, foldedSetIterable iter X.env x = pure x := by intro _; rfl) (eN : X.N = N := by rfl) (eS : X.env.scope = fs := by rfl) : PE X (.ListComp elt [⟨.Name x px, iter, ifs, 0⟩] scope pos) (tComp wi tt te) := by
  intro pins s σ H Q I h
  subst eN eS
  have ok := CompOk.of ok
  obtain ⟨cl, hcl, c1, c2⟩ := closure_of (scope := scope) (env := X.env) fun y hy e => I.ok.has y.1 (ok.free y hy e)
  rw [eval_ListComp]
  refine wpAny_comprehension_free (use := none) rfl hs hcl ok.kind (fun y hy e => (ok.locs y hy e).1) (thn (hi pins s σ H _ I h) fun v s1 h1 => thn h1 fun itv s2 h2 => ?_)
  obtain ⟨it, fp, tn, J, H2, e, I2, T, st2, f2, rd⟩ := h2
  subst e
  refine comp_core (RR := fun acc C => compPost (model X.prog X.w) X.A X.xe none (EP X pins σ Q) acc C) I2 hcalm ok hN c1 c2 T st2 f2 (ht cl) (he cl) rd fun D C ys H' s' hD q I' hm fC => ?_
  obtain ⟨m, hm⟩ := hm
  refine ⟨m, hm, fun h' hs' => ⟨.ref D, _, I'.turned (t' := s'.toks) (fun b o hb e => (hs'.2 b hb).trans e) fC.1 fC.2.1 fC.2.2.2.1 fC.2.2.2.2.1 fC.2.2.2.2.2, rfl, q D hD⟩⟩
end
end L2
namespace L2
open PySem PySem.Spec PyProof.Rows
abbrev one (c : Nat) : Str := ⟨#[c]⟩
def Its (x : Str) : It := ⟨fun i _ => i < x.length, fun i H v H' => H' = H ∧ ∃ c, x.cps.toList[i]? = some c ∧ v = .str (one c), fun i _ => x.length ≤ i⟩
theorem turn_str {P : Program} {w : World} {K : PySem.W.Frag} {tg : Expr} (it : Addr) (ty : String) (x : Str) (t : Tok) (hW : ∀ A' : Around, A'.handled = none → Walks P w A' it [it] [it] x.cps.size (SignAt x) (fun i h => h.IsStrIter it ty x t i))
    (hn : ["enumerate", "zip", "dict_itemiterator", "dict_reverseitemiterator", "odict_iterator", "itertools.zip_longest", "itertools.pairwise"].contains ty = false)
    (hself : ∀ (A : Around) (i : Nat) (s : Shared) (Q : Value → Shared → Prop) (E : Value → Shared → Prop), s.heap.IsStrIter it ty x t i → Q (.ref it) s → wpAny (model P w) A (pyIter (.ref it)) Q E s) :
    Turn P w K tg (Its x) [it] it (fun i h => h.IsStrIter it ty x t i ∧ i ≤ x.length) where
  mem := by simp
  obj := fun i h st b hb => by
    have e : b = it := by simpa using hb
    subst e
    obtain ⟨⟨o, e, c, d⟩, _⟩ := st
    exact ⟨o, e, fun v z => by rw [d] at z; cases z⟩
  keep := fun i h h' st k => by
    obtain ⟨⟨o, e, c, d⟩, l⟩ := st
    exact ⟨⟨o, k it (by simp) o e, c, d⟩, l⟩
  item := by
    intro X hP hw hK hc i pins s σ H E I hf st hg
    subst hP hw hK
    obtain ⟨f0, f1, f2, f3, f4, f5⟩ := hf it (by simp)
    have hg : i < x.length := hg
    refine (hW X.A (I.ok.hd hc)).item i s _ _ hg st.1 fun v h' tk hv st' kk => ?_
    obtain ⟨c, u, hx, rfl⟩ := hv
    have I1 : Inv X pins σ H { s with heap := h', toks := tk } := I.turned (fun b o hb e => kk b o (by simpa using hb) e) f0 f1 f3 f4 f5
    obtain ⟨o, e, hcl, hd⟩ := id st'
    refine ⟨_, rfl, go_of (s := { s with heap := h', toks := tk }) e hcl hd hn ⟨.str (one c), H, I1, ⟨u, rfl⟩, ⟨rfl, c, by simpa using hx, rfl⟩, ⟨st', hg⟩, fun b hb => (hf b hb).1⟩⟩
  done := by
    intro X hP hw hK hc i pins s σ H E I hf st hg
    subst hP hw hK
    obtain ⟨f0, f1, f2, f3, f4, f5⟩ := hf it (by simp)
    have e : i = x.cps.size := Nat.le_antisymm st.2 hg
    subst e
    exact (hW X.A (I.ok.hd hc)).done s _ _ st.1 fun h' tk kk => ⟨rfl, I.turned (fun b o hb e => kk b o (by simpa using hb) e) f0 f1 f3 f4 f5⟩
  self := fun A i s Q E st h => hself A i s Q E st.1 h
section
variable {X : Cx} {tg : Expr}
def iStr (te : TE) : TI := fun σ H R => te σ H fun v H1 => ∃ x, v = .str x ∧ R (Its x) H1
theorem pi_str {e : Expr} {te : TE} (he : PE X e te) : PI X tg e (iStr te) := by
  intro pins s σ H R I h
  refine thn (he pins s σ H _ I h) fun v s1 ⟨y, H1, I1, r1, q1⟩ => ?_
  obtain ⟨x, rfl, q⟩ := q1
  obtain ⟨t, rfl⟩ := r1
  have fok : ∀ b ∈ [s1.heap.objs.size], FpOk X pins H1 b := fun b hb => by
    have e : b = s1.heap.objs.size := by simpa using hb
    subst e
    exact I1.fpOk (Nat.le_refl _) (I1.hok.fresh (Nat.le_refl _))
  cases ha : x.cps.all (· < 128)
  · refine wpAny_pyIter_wide ha ?_
    exact ⟨s1.heap.objs.size, [s1.heap.objs.size], _, _, H1, rfl, I1.kept (t' := s1.toks) fun b o e => Heap.get?_push_of_some _ e,
      turn_str _ "str_iterator" x t (fun A' hA => Walks.strWide hA _ x t) (by decide) (fun A i s Q E st h => wpAny_pyIter_striter_wide st h), ⟨⟨_, Heap.get?_push_size _ rfl, rfl, rfl⟩, Nat.zero_le _⟩, fok, q⟩
  · refine wpAny_pyIter_ascii ha ?_
    exact ⟨s1.heap.objs.size, [s1.heap.objs.size], _, _, H1, rfl, I1.kept (t' := s1.toks) fun b o e => Heap.get?_push_of_some _ e,
      turn_str _ "str_ascii_iterator" x t (fun A' hA => Walks.strAscii hA _ x t) (by decide) (fun A i s Q E st h => wpAny_pyIter_striter_ascii st h), ⟨⟨_, Heap.get?_push_size _ rfl, rfl, rfl⟩, Nat.zero_le _⟩, fok, q⟩
end
theorem yes_rd {σ : St} {H : Hp} {Q : Bool → Hp → Prop} (q : Q true H) : tYes σ H Q := q
theorem comprd_by {J : It} {te : TE} {fin : List V → Hp → Prop} {σ : St} {H : Hp} (ys : List V) (Pv : Nat → Hp → Prop) (hz : ys.length ≤ sizeLine) (h0 : Pv 0 H) (hgo : ∀ i H, i < ys.length → Pv i H → J.go i H) (hst : ∀ H, Pv ys.length H → J.stop ys.length H)
    (step : ∀ i y H x H', ys[i]? = some y → Pv i H → J.yld i H x H' → te (σ ++ [some x]) H' fun z H3 => z = y ∧ Pv (i + 1) H3) (hd : ∀ H, Pv ys.length H → fin ys H)
    (mono : ∀ σ H Q Q', (∀ v H1, Q v H1 → Q' v H1) → te σ H Q → te σ H Q') : CompRd J tYes te fin σ H := by
  refine ⟨fun i m zs H => m = ys.length - i ∧ i ≤ ys.length ∧ zs = ys.take i ∧ Pv i H, ⟨_, rfl, Nat.zero_le _, by simp, h0⟩, ?_⟩
  rintro i m zs H ⟨rfl, hi, rfl, p⟩
  by_cases hlt : i < ys.length
  · refine .inr ⟨hgo i H hlt p, fun x H' y => ?_⟩
    refine yes_rd (iteT ?_)
    refine mono _ _ _ _ (fun v H1 q => ?_) (step i ys[i] H x H' (List.getElem?_eq_getElem hlt) p y)
    obtain ⟨e, p'⟩ := q
    refine ⟨by rw [List.length_take]; omega, ys.length - (i + 1), by omega, rfl, hlt, ?_, p'⟩
    rw [List.take_add_one, List.getElem?_eq_getElem hlt, e] <;> rfl
  · have e : i = ys.length := by omega
    subst e
    refine .inl ⟨hst H p, ?_⟩
    rw [List.take_length]
    exact hd H p
def cutC (x : Str) (lo hi : Option Int) : List Nat := (x.cps.toList.drop (HT.sIx x.length 0 lo)).take (HT.sIx x.length x.length hi - HT.sIx x.length 0 lo)
theorem slice_cut (x : Str) (lo hi : Option Int) : Txt.slice x lo hi = ⟨(cutC x lo hi).toArray⟩ := by
  obtain ⟨h1, h2, h3⟩ := slice_bounds lo hi x.length
  have hle : HT.sIx x.length x.length hi ≤ x.length := HT.sIx_le _ _ (Nat.le_refl _) _
  have e1 : Builtin.Str.strSliceIndices lo hi 1 x.length = Builtin.Str.strSliceIndices (some ((HT.sIx x.length 0 lo : Nat) : Int)) (some ((HT.sIx x.length x.length hi : Nat) : Int)) 1 x.length := by
    have hle0 : HT.sIx x.length 0 lo ≤ x.length := HT.sIx_le _ _ (Nat.zero_le _) _
    have q : ∀ (o : Option Int) (d : Nat), d ≤ x.length → (match o with | none => (d : Int) | some i => let i := if i < 0 then i + (x.length : Int) else i; max 0 (min i (x.length : Int))) = ((HT.sIx x.length d o : Nat) : Int) := by
      intro o d hd
      cases o with
      | none => rfl
      | some i =>
        simp only [HT.sIx]
        by_cases h : i < 0
        · simp only [h, if_true] <;> omega
        · simp only [h, if_false] <;> omega
    have ql := q lo 0 (Nat.zero_le _)
    have qh := q hi x.length (Nat.le_refl _)
    have ql' := q (some ((HT.sIx x.length 0 lo : Nat) : Int)) 0 (Nat.zero_le _)
    have qh' := q (some ((HT.sIx x.length x.length hi : Nat) : Int)) x.length (Nat.le_refl _)
    rw [HT.sIx_nat, Nat.min_eq_left hle0] at ql'
    rw [HT.sIx_nat, Nat.min_eq_left hle] at qh'
    unfold Builtin.Str.strSliceIndices
    simp only [show (1 : Int) > 0 by decide, if_true]
    simp only [] at ql qh ql' qh'
    first
      | (rw [ql', qh']; exact congrArg₂ (fun a b => sliceRange a b 1) ql qh)
      | (congr 1 <;> first | exact ql.trans ql'.symm | exact qh.trans qh'.symm)
  by_cases hc : HT.sIx x.length 0 lo ≤ HT.sIx x.length x.length hi
  · have e2 := StrLaws.sliceText_nat x hc hle
    unfold Txt.slice
    unfold StrLaws.sliceText at e2
    rw [e1]
    exact e2
  · have e3 : Builtin.Str.strSliceIndices (some ((HT.sIx x.length 0 lo : Nat) : Int)) (some ((HT.sIx x.length x.length hi : Nat) : Int)) 1 x.length = [] := by
      have hle0 : HT.sIx x.length 0 lo ≤ x.length := HT.sIx_le _ _ (Nat.zero_le _) _
      have a1 : ¬ (((HT.sIx x.length 0 lo : Nat) : Int) < 0) := by omega
      have a2 : ¬ (((HT.sIx x.length x.length hi : Nat) : Int) < 0) := by omega
      have b1 : max (0 : Int) (min ((HT.sIx x.length 0 lo : Nat) : Int) (x.length : Int)) = ((HT.sIx x.length 0 lo : Nat) : Int) := by omega
      have b2 : max (0 : Int) (min ((HT.sIx x.length x.length hi : Nat) : Int) (x.length : Int)) = ((HT.sIx x.length x.length hi : Nat) : Int) := by omega
      simp only [Builtin.Str.strSliceIndices, sliceRange, a1, a2, if_false, b1, b2, show ((1 : Int) > 0) = True from by simp, if_true]
      rw [if_neg (by omega)] <;> rfl
    unfold Txt.slice
    rw [e1, e3]
    have e4 : HT.sIx x.length x.length hi - HT.sIx x.length 0 lo = 0 := by omega
    unfold cutC
    rw [e4, List.take_zero]
    split
    · rename_i h
      have h0 : x.length = 0 := by
        have h' : (0 : Nat) = x.length := by simpa using h
        exact h'.symm
      have : x.cps = #[] := Array.eq_empty_of_size_eq_zero h0
      cases x
      simp_all
    · rfl
section
variable {X : Cx}
def rSlS : V → Option Int → Option Int → Hp → VK → Prop := fun x lo hi H Q => ∃ z, x = .str z ∧ z.length ≤ sizeLine ∧ Q (.str ⟨(cutC z lo hi).toArray⟩) H
theorem part_value {v : Value} {o : Option Int} (p : IsPart v o) : ∃ q, v = partValue q ∧ q.map (·.1) = o := by
  cases p with
  | none => exact ⟨none, rfl, rfl⟩
  | int i t => exact ⟨some (i, t), rfl, rfl⟩
theorem sl_str : SlR X rSlS := by
  intro pins s σ H x v vl vu lo hi sl Q I rx hs pl pu h
  obtain ⟨z, rfl, hz, q⟩ := h
  obtain ⟨t, rfl⟩ := rx
  obtain ⟨ql, rfl, el⟩ := part_value pl
  obtain ⟨qu, rfl, eu⟩ := part_value pu
  refine ⟨"str", _, F.slot_str_getitem.lookup, typeIs_str _ _ _, ?_⟩
  refine wpAny_getItem_str_slice (l := ql) (u := qu) (st := none) hs rfl ?_
  have fin : ∀ t' k, EP X pins σ Q (.str (Txt.slice z lo hi) t') { s with toks := k } := fun t' k => ⟨.str ⟨(cutC z lo hi).toArray⟩, H, I.tok _, ⟨t', by rw [slice_cut]⟩, q⟩
  unfold sliceMade slicePicked
  rw [el, eu]
  exact post_val_or_str ⟨Nat.le_trans (Txt.slice_le z lo hi) hz, fin⟩
theorem call_all_bools (hc : X.calm = true) : CallR X (.builtin "all") (fun xs H Q => ∃ (p : Addr) (bs : List Bool), xs = [.ref p] ∧ H p = some (.lst (bs.map V.bl)) ∧ Q (.bl (bs.all id)) H) := by
  intro pins s σ H xs us Q I r h
  obtain ⟨p, bs, rfl, hp, q⟩ := h
  obtain ⟨u, rfl, ru⟩ := vals1 r
  cases ru
  obtain ⟨its, rv, ht, hz⟩ := I.list (SqL.of (K := X.K) hp)
  have hlen : its.length = bs.length := by rw [← rv.length, List.length_map]
  refine call_all_walk (wpAny_pyIter_list ht.isList ?_)
  have hne : p ≠ s.heap.objs.size := Nat.ne_of_lt (I.hok.lt hp)
  refine ⟨s.heap.objs.size, _, _, _, _, _, fun i => bs.getD i false, rfl, Walks.list (show X.A.in1.handled = none from I.ok.hd hc) _ p hne its.toArray, ⟨⟨_, Heap.get?_push_size _ rfl, rfl, rfl⟩, ?_⟩, ?_, ?_⟩
  · obtain ⟨o, e, c⟩ := ht.isList
    exact ⟨o, Heap.get?_push_of_some _ e, c⟩
  · intro i v s' Q' E' hv hq
    have hv : its[i]? = some v := by simpa using hv
    have hi : i < its.length := (List.getElem?_eq_some_iff.mp hv).1
    obtain ⟨w, hw, rw'⟩ := rv.get (i := i) (x := V.bl (bs.getD i false)) (by
      rw [List.getElem?_map, List.getElem?_eq_getElem (by omega), List.getD_eq_getElem?_getD, List.getElem?_eq_getElem (by omega)] <;> rfl)
    rw [hv] at hw
    cases hw
    cases rw'
    exact wpAny_truthy_bool hq
  · intro h' tk hk
    have e : (List.range its.toArray.size).all (fun i => bs.getD i false) = bs.all id := by
      rw [List.size_toArray, hlen]
      rw [Bool.eq_iff_iff, List.all_eq_true, List.all_eq_true]
      constructor
      · intro a b hb
        obtain ⟨i, hi, e⟩ := List.mem_iff_getElem.mp hb
        have := a i (List.mem_range.mpr hi)
        rw [List.getD_eq_getElem?_getD, List.getElem?_eq_getElem hi, e] at this
        exact this
      · intro a i hi
        have hi := List.mem_range.mp hi
        rw [List.getD_eq_getElem?_getD, List.getElem?_eq_getElem hi]
        exact a _ (List.getElem_mem hi)
    rw [e]
    refine ⟨.bl _, H, I.kept (t' := tk) fun b o e => hk b o ?_ (Heap.get?_push_of_some _ e), rfl, q⟩
    intro hb
    have : b = s.heap.objs.size := by simpa using hb
    rw [this] at e
    exact absurd (Heap.lt_size e) (Nat.lt_irrefl _)
def clsV : V → Option Value
  | .ty n => some (.type n)
  | .ref a => some (.ref a)
  | _ => none
def rIsi (K : PySem.W.Frag) : List V → Hp → VK → Prop := fun xs H Q => ∃ x c t cv b, xs = [x, c] ∧ clsV c = some cv ∧ TyOf K H x t ∧ PySem.W.kitOne K t cv = some b ∧ Q (.bl b) H
theorem call_isi : CallR X (.builtin "isinstance") (rIsi X.K) := by
  intro pins s σ H xs us Q I r h
  obtain ⟨x, c, t, cv, b, rfl, hc, ty, e, q⟩ := h
  obtain ⟨u, w', rfl, rx, rc⟩ := vals2 r
  have ec : w' = cv := by
    cases c with
    | ty n => cases hc; exact rc
    | ref a => cases hc; exact rc
    | _ => cases hc
  subst ec
  exact isinst_ok I rx ty e fun tk => ⟨.bl b, H, I.tok _, rfl, q⟩
theorem Inv.big {pins : List (Addr × Obj)} {σ : St} {H : Hp} {s : Shared} (I : Inv X pins σ H s) : sysModules < s.heap.objs.size := by
  have h : mainGlobals < s.heap.objs.size := (I.mod.glob.keeps I.bk).lt
  exact Nat.lt_trans (by decide) h
end
end L2
namespace L2
open PySem PySem.Spec PyProof.Rows
end L2
namespace L2
open PySem PySem.Spec PyProof.Rows
structure Def (P : Program) (w : World) (K : PySem.W.Frag) (mg : Str → Option Value) (base : Heap) (CX : CXT) (k : Nat) (x : Str) (ps : List Str) (sp : Sp) : Prop where
  ex : ∃ (f : Addr) (fd : FuncData), FnOk P w K mg base CX k f fd ps sp ∧ Binds K fd ps [] ∧ PySem.W.keepIn K (.ref f) = true ∧ mg x = some (.ref f)
theorem Def.mk' {P : Program} {w : World} {K : PySem.W.Frag} {mg : Str → Option Value} {base : Heap} {CX : CXT} {k : Nat} {x : Str} {ps : List Str} {sp : Sp} {f : Addr} {fd : FuncData} (F : FnOk P w K mg base CX k f fd ps sp) (b : Binds K fd ps []) (kp : PySem.W.keepIn K (.ref f) = true) (m : mg x = some (.ref f)) :
    Def P w K mg base CX k x ps sp := ⟨f, fd, F, b, kp, m⟩
section
variable {X : Cx} {CX : CXT} {k : Nat} {x : Str} {ps : List Str} {sp : Sp} {E : XK} {p pos : Pos} {e : Expr} {es : List Expr} {t : TA}
theorem pe_defE (D : Def X.prog X.w X.K X.mg X.base CX k x ps sp) (hr : Room k X.A) (hx : Passes CX X E) (ha : PA X (e :: es) t) (hg : Gl X x := by rfl) (hdb : (x == ("__debug__" : Str)) = false := by decide)
    (he : starEach (e :: es) X.env = (false, eval e X.env) :: starEach es X.env := by rfl) (hpl : (backTo pos (starEach es X.env)).any (·.1) = false := by rfl) : PE X (.Call (.Name x p) (e :: es) [] pos) (tCall sp [] E t) := by
  obtain ⟨f, fd, F, b, kp, m⟩ := D.ex
  exact pe_call F hr hg m kp b .nil hx ha hdb he hpl
theorem pe_def (D : Def X.prog X.w X.K X.mg X.base CX0 k x ps sp) (hr : Room k X.A) (ha : PA X (e :: es) t) (hg : Gl X x := by rfl) (hdb : (x == ("__debug__" : Str)) = false := by decide)
    (he : starEach (e :: es) X.env = (false, eval e X.env) :: starEach es X.env := by rfl) (hpl : (backTo pos (starEach es X.env)).any (·.1) = false := by rfl) : PE X (.Call (.Name x p) (e :: es) [] pos) (tCall sp [] E0 t) :=
  pe_defE D hr pass0 ha hg hdb he hpl
end
end L2
namespace L2
open PySem PySem.Spec PyProof.Rows
structure Fly (P : Program) (w : World) (l : List Env) (H H' : Hp) (s s' : Shared) (e : Addr) (C : Value) : Prop where
  fl : ∃ B a0, Heap.FlyingW B l e C a0 s'.heap ∧ HOk P w H' B ∧ (∀ b o, s.heap.get? b = some o → H b = none → b ∉ frs l → B.get? b = some o) ∧ ∀ b o, s.heap.get? b = some o → b ∉ frs l → ∃ o', B.get? b = some o'
  os : s'.os = s.os
  bare : AllBare s'.gens
  slot : ∀ b o, s.heap.get? b = some o → H b = none → b ∈ frs l → ∃ sl, s'.heap.get? b = some { o with slots := sl }
  free : ∀ b o, s.heap.get? b = some o → H b = none → H' b = none
  tups : ∀ b xs, H b = some (.tup xs) → H' b = some (.tup xs)
  frzs : ∀ b o u, H b = some (.frz o u) → H' b = some (.frz o u)
  tbls : ∀ b ps, H b = some (.tbl ps) → ∃ more, H' b = some (.tbl (ps ++ more))
  new : H' e = none ∧ s.heap.get? e = none
theorem Fly.there {P : Program} {w : World} {l : List Env} {H H' : Hp} {s s' : Shared} {e : Addr} {C : Value} (F : Fly P w l H H' s s' e C) (b : Addr) (o : Obj) (q : s.heap.get? b = some o) : ∃ o', s'.heap.get? b = some o' := by
  obtain ⟨B, a0, fl, _, _, c2⟩ := F.fl
  by_cases hb : b ∈ frs l
  · obtain ⟨_, o', ho', _⟩ := fl.2.2.1.mem hb
    exact ⟨o', ho'⟩
  · obtain ⟨o', r⟩ := c2 b o q hb
    exact ⟨o', fl.1 b o' r⟩
section
variable {P : Program} {w : World} {K : PySem.W.Frag} {mg : Str → Option Value} {base : Heap} {N : List Str} {qual : Str} {scope : Scope} {f : Addr} {cd : Value} {A : Around} {outer : List Env} {s₀ : Shared} {H₀ : Hp} {E : XK}
end
end L2
namespace L2
open PySem PySem.Spec PyProof.Rows
section
variable {X : Cx} {pins : List (Addr × Obj)} {σ : St} {H : Hp} {s : Shared}
end
end L2
namespace L2
open PySem PySem.Spec PyProof.Rows
structure EqOk {α : Type} [DecidableEq α] (X : Cx) (A : Around) (R : Hp → α → V → Prop) : Prop where
  eq : ∀ (pins : List (Addr × Obj)) (σ : St) (H : Hp) (s : Shared), Inv X pins σ H s → ∀ a b x y u v, R H a x → R H b y → RelV x u → RelV y v → SeqAt.EqAt A s u v (decide (a = b))
  fn : ∀ (pins : List (Addr × Obj)) (σ : St) (H : Hp) (s : Shared), Inv X pins σ H s → ∀ a b x, R H a x → R H b x → a = b
def strR : Hp → Str → V → Prop := fun _ z v => v = .str z
def tupR {α : Type} (K : PySem.W.Frag) (R : Hp → α → V → Prop) : Hp → List α → V → Prop := fun H zs v => ∃ a xs, v = .ref a ∧ SqT K H a xs ∧ Paired (R H) zs xs
def lstR {α : Type} (K : PySem.W.Frag) (R : Hp → α → V → Prop) : Hp → List α → V → Prop := fun H zs v => ∃ a xs, v = .ref a ∧ SqL K H a xs ∧ Paired (R H) zs xs
theorem paired_get {α β : Type} {F : α → β → Prop} : ∀ {l₁ : List α} {l₂ : List β} {i : Nat} {b : β}, Paired F l₁ l₂ → l₂[i]? = some b → ∃ a, l₁[i]? = some a ∧ F a b
  | _, _, _, _, .nil, e => by simp at e
  | _, _, 0, _, .cons h _, e => by simp at e; subst e; exact ⟨_, rfl, h⟩
  | _, _, i + 1, b, .cons _ t, e => by
    obtain ⟨a, h1, h2⟩ := paired_get (i := i) (b := b) t (by simpa using e)
    exact ⟨a, by simpa using h1, h2⟩
theorem paired_fn {α β : Type} {F : α → β → Prop} (hf : ∀ a b x, F a x → F b x → a = b) : ∀ {l l' : List α} {m : List β}, Paired F l m → Paired F l' m → l = l'
  | _, _, _, .nil, .nil => rfl
  | _, _, _, .cons h t, .cons h' t' => by rw [hf _ _ _ h h', paired_fn hf t t']
theorem paired_map {α β : Type} {F : α → β → Prop} {f : α → β} (h : ∀ a, F a (f a)) : ∀ l : List α, Paired F l (l.map f)
  | [] => .nil
  | a :: r => .cons (h a) (paired_map h r)
theorem all_eq_items {α : Type} [DecidableEq α] (xs ys : List α) : ((List.range (min xs.length ys.length)).all (fun j => decide (xs[j]? = ys[j]?)) && xs.length == ys.length) = decide (xs = ys) := by
  rw [Bool.eq_iff_iff]
  simp only [Bool.and_eq_true, List.all_eq_true, List.mem_range, decide_eq_true_eq, beq_iff_eq]
  constructor
  · rintro ⟨h1, h2⟩
    refine List.ext_getElem? fun i => ?_
    by_cases hi : i < xs.length
    · exact h1 i (by omega)
    · rw [List.getElem?_eq_none (by omega), List.getElem?_eq_none (by omega)]
  · rintro rfl
    exact ⟨fun _ _ => rfl, rfl⟩
section
variable {X : Cx} {α : Type} [DecidableEq α] {R : Hp → α → V → Prop}
theorem eqok_str {A : Around} : EqOk X A strR where
  eq := fun pins σ H s I a b x y u v ra rb ru rv => by
    cases ra
    cases rb
    obtain ⟨t, rfl⟩ := ru
    obtain ⟨t', rfl⟩ := rv
    exact SeqAt.EqAt.str_str a t b t'
  fn := fun pins σ H s I a b x ra rb => by
    rw [ra] at rb
    exact V.str.inj rb
theorem items_eq {A : Around} (h : EqOk X A R) {pins : List (Addr × Obj)} {σ : St} {H : Hp} {s : Shared} (I : Inv X pins σ H s) {zs ws : List α} {xs ys : List V} {its its2 : List Value} (r : Vals xs its) (r' : Vals ys its2) (p : Paired (R H) zs xs) (p' : Paired (R H) ws ys)
    (j : Nat) (h1 : j < its.toArray.size) (h2 : j < its2.toArray.size) : SeqAt.EqAt A s its.toArray[j] its2.toArray[j] (decide (zs[j]? = ws[j]?)) := by
  have l1 : j < its.length := by simpa using h1
  have l2 : j < its2.length := by simpa using h2
  have k1 : j < xs.length := by rw [r.length]; exact l1
  have k2 : j < ys.length := by rw [r'.length]; exact l2
  obtain ⟨u, hu, ru⟩ := r.get (List.getElem?_eq_getElem k1)
  obtain ⟨v, hv, rv⟩ := r'.get (List.getElem?_eq_getElem k2)
  obtain ⟨a, ha, ra⟩ := paired_get p (List.getElem?_eq_getElem k1)
  obtain ⟨b, hb, rb⟩ := paired_get p' (List.getElem?_eq_getElem k2)
  have e1 : its.toArray[j] = u := by
    rw [List.getElem?_eq_getElem l1] at hu
    simpa using Option.some.inj hu
  have e2 : its2.toArray[j] = v := by
    rw [List.getElem?_eq_getElem l2] at hv
    simpa using Option.some.inj hv
  have e3 : decide (zs[j]? = ws[j]?) = decide (a = b) := by
    rw [ha, hb]
    exact decide_eq_decide.mpr ⟨fun z => Option.some.inj z, fun z => by rw [z]⟩
  rw [e1, e2, e3]
  exact h.eq pins σ H s I a b _ _ u v ra rb ru rv
theorem rc_tup {A : Around} (h : EqOk X A.in1 R) (hu : A.units < cLine) {pins : List (Addr × Obj)} {σ : St} {H : Hp} {s : Shared} (I : Inv X pins σ H s) {zs ws : List α} {a b : Addr} {xs ys : List V} (q : SqT X.K H a xs) (q' : SqT X.K H b ys) (p : Paired (R H) zs xs) (p' : Paired (R H) ws ys) :
    SeqAt.RcAt A s (.ref a) (.ref b) (decide (zs = ws)) ∧ SeqAt.RcNeAt A s (.ref a) (.ref b) (!decide (zs = ws)) := by
  obtain ⟨its, r, t, _⟩ := I.tuple q
  obtain ⟨its2, r', t', _⟩ := I.tuple q'
  have e : ((List.range (min its.toArray.size its2.toArray.size)).all (fun j => decide (zs[j]? = ws[j]?)) && its.toArray.size == its2.toArray.size) = decide (zs = ws) := by
    have l1 : its.toArray.size = zs.length := by rw [List.size_toArray, ← r.length, p.length]
    have l2 : its2.toArray.size = ws.length := by rw [List.size_toArray, ← r'.length, p'.length]
    rw [l1, l2]
    exact all_eq_items zs ws
  have g1 := SeqAt.RcAt.tuples (A := A) (s := s) (l := a) (b := b) (e := fun j => decide (zs[j]? = ws[j]?)) t t' hu (fun j h1 h2 => items_eq h I r r' p p' j h1 h2)
  have g2 := SeqAt.RcNeAt.tuples (A := A) (s := s) (l := a) (b := b) (e := fun j => decide (zs[j]? = ws[j]?)) t t' hu (fun j h1 h2 => items_eq h I r r' p p' j h1 h2)
  rw [e] at g1 g2
  exact ⟨g1, g2⟩
theorem eqok_tup {A : Around} (h : EqOk X A.in1 R) (hu : A.units < cLine) : EqOk X A (tupR X.K R) where
  eq := fun pins σ H s I zs ws x y u v ⟨a, xs, e1, q, p⟩ ⟨b, ys, e2, q', p'⟩ ru rv => by
    subst e1 e2
    cases ru
    cases rv
    by_cases hab : a = b
    · subst hab
      have ex := I.tuple_inj q q'
      subst ex
      have ez := paired_fn (h.fn pins σ H s I) p p'
      rw [decide_eq_true ez]
      exact SeqAt.EqAt.same _
    · exact SeqAt.EqAt.of_refs hab (rc_tup h hu I q q' p p').1
  fn := fun pins σ H s I zs ws x ⟨a, xs, e1, q, p⟩ ⟨b, ys, e2, q', p'⟩ => by
    subst e1
    cases e2
    have ex := I.tuple_inj q q'
    subst ex
    exact paired_fn (h.fn pins σ H s I) p p'
theorem op_eqTup (h : EqOk X X.A.in1 R) (hu : X.A.units < cLine) : OpR X (compareOp .Eq) (fun x y H Q => ∃ zs ws, tupR X.K R H zs x ∧ tupR X.K R H ws y ∧ Q (.bl (decide (zs = ws))) H) := by
  intro pins s σ H x y v u Q I rx ry hq
  obtain ⟨zs, ws, ⟨a, xs, e1, q, p⟩, ⟨b, ys, e2, q', p'⟩, hQ⟩ := hq
  subst e1 e2
  cases rx
  cases ry
  exact (rc_tup h hu I q q' p p').1 X.prog X.w _ _ ⟨.bl _, H, I, rfl, hQ⟩
theorem op_catT0 : OpR X (binaryOp .Add) (fun x y H Q => ∃ a b ys, x = .ref a ∧ y = .ref b ∧ SqT X.K H a [] ∧ SqT X.K H b ys ∧ Q (.ref b) H) := by
  intro pins s σ H x y v u Q I rx ry h
  obtain ⟨a, b, ys, rfl, rfl, ha, hb, q⟩ := h
  cases rx
  cases ry
  obtain ⟨its, r1, p1, _⟩ := I.tuple ha
  obtain ⟨its2, r2, p2, _⟩ := I.tuple hb
  cases r1
  obtain ⟨⟨c1, d1, t1, l1⟩, o1, hc1, n1, hd1⟩ := p1
  obtain ⟨⟨c2, d2, t2, l2⟩, o2, hc2, n2, hd2⟩ := p2
  simp only at hc1 hd1 hc2 hd2
  subst hc1 hd1 hc2 hd2
  exact concat_meets ⟨_, o1, rfl⟩ ⟨_, o2, rfl⟩ noFill_tuple_add seq_tuple_add PySem.F.slot_tuple_add PySem.F.entry_tuple_add (PySem.F.args_tuple_add_2 _ _)
    (tuple_addW0 a b #[] its2.toArray n1 n2 d1 d2 l1 l2 rfl) ⟨o1, o2, ⟨.ref b, H, I, rfl, q⟩⟩
def endsC (x y : Str) : Bool := decide (y.length ≤ x.length) && decide (x.cps.toList.drop (x.length - y.length) = y.cps.toList)
theorem mt_ends : MtR X "str.endswith" (fun x vs H Q => ∃ z y, x = .str z ∧ vs = [.str y] ∧ Q (.bl (endsC z y)) H) := by
  intro pins s σ H x vs v us Q I rx rv h
  obtain ⟨z, y, rfl, rfl, q⟩ := h
  obtain ⟨t, rfl⟩ := rx
  obtain ⟨u, rfl, ru⟩ := vals1 rv
  obtain ⟨t', rfl⟩ := ru
  refine SC.endswith ⟨.bl (endsC z y), H, I, ?_, q⟩
  show Value.bool (Txt.endswith z y) = Value.bool (endsC z y)
  have e : Txt.endswith z y = endsC z y := by
    unfold Txt.endswith endsC
    rw [StrLaws.subAt_eq]
    by_cases hl : y.length ≤ z.length
    · have e1 : (z.cps.toList.drop (z.length - y.length)).take y.length = z.cps.toList.drop (z.length - y.length) := List.take_of_length_le (by rw [List.length_drop]; simp [Str.length] at hl ⊢; omega)
      rw [e1]
      have e2 : (z.cps.toList.drop (z.length - y.length) == y.cps.toList) = decide (z.cps.toList.drop (z.length - y.length) = y.cps.toList) := by
        rw [Bool.eq_iff_iff]
        simp
      rw [e2]
      simp [hl]
    · simp [hl]
  rw [e]
end
end L2
namespace L2
open PySem PySem.Spec PyProof.Rows
section
variable {X : Cx} {t : St → Hp → Prop}
end
end L2
namespace L2
open PySem PySem.Spec PyProof.Rows
structure XCls (K : PySem.W.Frag) (D : Addr) : Prop where
  cl : (PySem.W.clsIn K D).isSome = true
  ga : PySem.W.findIn K (.ref D) "__getattribute__" = some (some (.builtin "BaseException.__getattribute__"))
  gt : PySem.W.findIn K (.ref D) "__getattr__" = some none
  at_ : PySem.W.findIn K (.ref D) "__class__" = some (some (.builtin "object.__class__"))
  sp : PySem.W.specialIn K (.builtin "object.__class__") "__get__" = some (some (.builtin "getset_descriptor.__get__"))
  tk : PySem.W.takesIn K (.builtin "object.__class__") = some true
  ob : PySem.W.mroIn K D (.type "object") = some true
  be : PySem.W.mroIn K D (.type "BaseException") = some true
section
variable {prog : Program} {w : World} {A : Around} {E : Value → Shared → Prop} {s : Shared} {K : PySem.W.Frag} {x D : Addr} {ox : Obj}
open PySem.W PySem.Builtin PySem.Builtin.ObjectAttr PySem.Builtin.Getset_descriptor in
end
section
variable {X : Cx}
end
end L2
namespace L2
open PySem PySem.Spec PyProof.Rows
section
variable {X : Cx} {pins : List (Addr × Obj)} {σ : St} {H : Hp} {s : Shared}
end
end L2
namespace L2
open PySem PySem.Spec PyProof.Rows
theorem cut_last (xs : List V) (l : V) : cutV (xs ++ [l]) none (some (-1)) = xs ∧ ¬ (HT.sIx (xs ++ [l]).length 0 none = 0 ∧ HT.sIx (xs ++ [l]).length (xs ++ [l]).length (some (-1)) = (xs ++ [l]).length) := by
  have e : HT.sIx (xs ++ [l]).length (xs ++ [l]).length (some (-1)) = xs.length := by
    have z : HT.sIx (xs ++ [l]).length (xs ++ [l]).length (some (-1)) = ((-1 : Int) + ((xs ++ [l]).length : Int)).toNat := rfl
    rw [z, List.length_append, List.length_singleton]
    omega
  constructor
  · unfold cutV
    rw [e, HT.sIx_none, List.drop_zero, Nat.sub_zero, List.take_append_of_le_length (Nat.le_refl _), List.take_length]
  · rw [e, List.length_append, List.length_singleton]
    omega
theorem same_upd {H : Hp} {p : Addr} (h : H p = none) (o : HO) : Same H (upd H p o) := fun b u q => by rw [upd_ne (ne_of_none q h)]; exact q
theorem Same.seqT {K : PySem.W.Frag} {H H' : Hp} {a : Addr} {xs : List V} (e : Same H H') (h : SqT K H a xs) : SqT K H' a xs := by
  rcases h with (h | ⟨o, h⟩) | h
  · exact .inl (.inl (e _ _ h))
  · exact .inl (.inr ⟨o, e _ _ h⟩)
  · exact .inr h
abbrev rCat2 (K : PySem.W.Frag) : R2 := fun x y H Q => (∃ a b ys, x = .ref a ∧ y = .ref b ∧ SqT K H a [] ∧ SqT K H b ys ∧ Q (.ref b) H) ∨ rCatT K x y H Q
theorem cat2_rd {K : PySem.W.Frag} {H : Hp} {Q : VK} {a b : Addr} {xs ys : List V} (ha : SqT K H a xs) (hb : H b = some (.tup ys)) (hy : ys ≠ []) (hz : xs.length + ys.length ≤ sizeLine) (q : ∀ p H', Same H H' → H' p = some (.tup (xs ++ ys)) → Q (.ref p) H') : rCat2 K (.ref a) (.ref b) H Q := by
  by_cases hx : xs = []
  · subst hx
    exact .inl ⟨a, b, ys, rfl, rfl, ha, SqT.of hb, q b H (Same.refl H) hb⟩
  · exact .inr ⟨a, b, xs, ys, rfl, rfl, ha, SqT.of hb, hx, hz, fun z => absurd z hy, fun _ p hp => q p _ (same_upd hp _) upd_same⟩
theorem snoc_rd {K : PySem.W.Frag} {σ : St} {H : Hp} {Q : VK} {i : Nat} {a : Addr} {xs : List V} {l z : V} {te : TE} (hσ : σ[i]? = some (some (.ref a))) (hS : SqT K H a (xs ++ [l])) (hz : xs.length + 1 ≤ sizeLine) (ht : ∀ H1, Same H H1 → ∀ Q1 : VK, Q1 z H1 → te σ H1 Q1)
    (q : ∀ p H', Same H H' → H' p = some (.tup (xs ++ [z])) → Q (.ref p) H') : tOp (rCat2 K) (tSl (rSlT K) (tVar i) tNoPart (tPart (tUn (rU fun i => .int (-i)) (tC (.int 1))))) (tTup (tCons te tNil)) σ H Q := by
  obtain ⟨e, nw⟩ := cut_last xs l
  refine ⟨_, hσ, 1, rfl, _, rfl, a, _, rfl, hS, nw, fun p hp => ?_⟩
  have g1 := same_upd hp (.tup (cutV (xs ++ [l]) none (some (-1))))
  refine ht _ g1 _ ⟨(by show 1 ≤ sizeLine; decide), fun p2 hp2 => ?_⟩
  have g2 := same_upd hp2 (.tup [z])
  refine cat2_rd (xs := xs) (ys := [z]) (g2.seqT (SqT.of (by rw [upd_same, e]))) upd_same (by simp) hz fun p3 H' g3 h3 => q p3 H' (g1.trans (g2.trans g3)) h3
end L2
namespace L2
open PySem PySem.Spec PyProof.Rows
section
variable {X : Cx}
end
end L2
namespace L2
open PySem PySem.Spec PyProof.Rows
section
variable {X : Cx} {α : Type} [DecidableEq α] {R : Hp → α → V → Prop}
noncomputable def standsFor (R : Hp → α → V → Prop) (H : Hp) (z : α) (u : Value) : Bool := @decide (∃ x, RelV x u ∧ R H z x) (Classical.propDecidable _)
theorem standsFor_eq {A : Around} (h : EqOk X A R) {pins : List (Addr × Obj)} {σ : St} {H : Hp} {s : Shared} (I : Inv X pins σ H s) {z a : α} {x : V} {u : Value} (r : RelV x u) (p : R H a x) : standsFor R H z u = decide (a = z) := by
  unfold standsFor
  by_cases e : a = z
  · subst e
    rw [decide_eq_true rfl]
    exact @decide_eq_true _ (Classical.propDecidable _) ⟨x, r, p⟩
  · rw [decide_eq_false e]
    refine @decide_eq_false _ (Classical.propDecidable _) fun ⟨y, ry, py⟩ => e ?_
    have ex := RelV.inj r ry
    subst ex
    exact h.fn pins σ H s I _ _ _ p py
theorem any_stands {A : Around} (h : EqOk X A R) {pins : List (Addr × Obj)} {σ : St} {H : Hp} {s : Shared} (I : Inv X pins σ H s) {z : α} : ∀ {zs : List α} {xs : List V} {us : List Value}, Vals xs us → Paired (R H) zs xs → us.any (standsFor R H z) = decide (z ∈ zs)
  | _, _, _, .nil, .nil => by simp
  | _ :: _, _ :: _, _ :: _, .cons r rs, .cons p ps => by
    rw [List.any_cons, standsFor_eq h I r p, any_stands h I rs ps]
    simp only [List.mem_cons, Bool.decide_or]
    congr 1
    exact decide_eq_decide.mpr eq_comm
theorem mem_stands {A : Around} (h : EqOk X A R) {pins : List (Addr × Obj)} {σ : St} {H : Hp} {s : Shared} (I : Inv X pins σ H s) {z : α} {x : V} {v : Value} (rz : RelV x v) (pz : R H z x) : ∀ {zs : List α} {xs : List V} {us : List Value}, Vals xs us → Paired (R H) zs xs → ∀ u ∈ us, SeqAt.EqAt A s u v (standsFor R H z u)
  | _, _, _, .nil, .nil, _, hu => nomatch hu
  | _ :: _, _ :: _, _ :: _, .cons r rs, .cons p ps, u, hu => by
    rcases List.mem_cons.mp hu with e | e
    · subst e
      rw [standsFor_eq h I r p]
      exact h.eq pins σ H s I _ _ _ _ _ _ p pz r rz
    · exact mem_stands h I rz pz rs ps u e
theorem op_inLst (h : EqOk X X.A.in1 R) : OpR X (compareOp .In) (fun x y H Q => ∃ z zs, R H z x ∧ lstR X.K R H zs y ∧ Q (.bl (decide (z ∈ zs))) H) := by
  intro pins s σ H x y v u Q I rx ry hh
  obtain ⟨z, zs, pz, ⟨a, xs, rfl, hq, ps⟩, q⟩ := hh
  cases ry
  obtain ⟨its, r, pl, hz⟩ := I.list hq
  refine SeqAt.in_listAt (standsFor R H z) pl.isList (fun w hw => mem_stands h I rx pz r ps w (by simpa using hw)) ⟨.bl _, H, I, rfl, ?_⟩
  rw [show its.toArray.any (standsFor R H z) = its.any (standsFor R H z) by simp, any_stands h I r ps]
  exact q
end
section
variable {X : Cx} {t : St → Hp → Prop}
end
end L2
namespace L2
open PySem PySem.Spec PyProof.Rows
end L2
namespace L2
open PySem
section
variable {prog : Program} {w : World} {A : Around} {E : Value → Shared → Prop} {s : Shared}
structure ZipOff (z TI TO i1 i2 : Addr) (fp1 fp2 : List Addr) : Prop where
  a : TI ≠ z ∧ TO ≠ z ∧ i1 ≠ z ∧ i2 ≠ z ∧ TI ≠ TO ∧ TI ≠ i1 ∧ TI ≠ i2 ∧ TO ≠ i1 ∧ TO ≠ i2 ∧ i1 ≠ i2
  b : z ∉ fp1 ∧ TO ∉ fp1 ∧ i2 ∉ fp1
  c : z ∉ fp2 ∧ TO ∉ fp2 ∧ i1 ∉ fp2
variable {z TI TO i1 i2 : Addr} {fp1 fp2 : List Addr} {n1 n2 k : Nat} {P1 P2 : Nat → Value → Prop} {S1 S2 : Nat → Heap → Prop} {u0 v0 : Value}
end
section
variable {prog : Program} {w : World} {A : Around} {E : Value → Shared → Prop} {s : Shared}
end
end L2
namespace L2
open PySem PySem.Spec PyProof.Rows
section
variable {X : Cx} {pins : List (Addr × Obj)} {σ : St} {H : Hp} {s : Shared} {a c : Addr} {xs : List V}
end
structure ZipAt (z TI TO i1 i2 a b : Addr) (i : Nat) (h : Heap) : Prop where
  z : IsZip h z TI TO .none
  ti : IsPair h TI (.ref i1) (.ref i2)
  to : ∃ u v, IsPair h TO u v
  t : h.IsTupleIter i1 a i
  l : h.IsListIter i2 b i
structure Five (z TI TO i1 i2 : Addr) : Prop where
  a : TI ≠ z ∧ TO ≠ z ∧ i1 ≠ z ∧ i2 ≠ z ∧ TI ≠ TO ∧ TI ≠ i1 ∧ TI ≠ i2 ∧ TO ≠ i1 ∧ TO ≠ i2 ∧ i1 ≠ i2
section
variable {P : Program} {w : World} {K : PySem.W.Frag} {elts : List Expr} {kt : Nat} {pt : Pos}
end
section
variable {X : Cx} {elts : List Expr} {kt : Nat} {pt : Pos}
end
end L2
namespace L2
open PySem PySem.Spec PyProof.Rows
def EqS (A : Around) (s : Shared) (x y : V) : Prop := ∀ u v, RelV x u → RelV y v → SeqAt.EqAt A s u v true
theorem eqS_int {A : Around} {s : Shared} (i : Int) : EqS A s (.int i) (.int i) := by
  rintro u v ⟨t, rfl⟩ ⟨t', rfl⟩
  have h := SeqAt.EqAt.int_int (A := A) (s := s) i t i t'
  rw [beq_self_eq_true] at h
  exact h
theorem eqS_items {A : Around} {s : Shared} {xs ys : List V} {us vs : List Value} (r : Vals xs us) (r' : Vals ys vs) (p : Paired (EqS A s) xs ys) (j : Nat) (h1 : j < us.toArray.size) (h2 : j < vs.toArray.size) : SeqAt.EqAt A s us.toArray[j] vs.toArray[j] true := by
  have l1 : j < us.length := by simpa using h1
  have l2 : j < vs.length := by simpa using h2
  have k1 : j < xs.length := by rw [r.length]; exact l1
  have k2 : j < ys.length := by rw [r'.length]; exact l2
  obtain ⟨u, hu, ru⟩ := r.get (List.getElem?_eq_getElem k1)
  obtain ⟨v, hv, rv⟩ := r'.get (List.getElem?_eq_getElem k2)
  obtain ⟨x, hx, q⟩ := paired_get p (List.getElem?_eq_getElem k2)
  have ex : x = xs[j] := by
    rw [List.getElem?_eq_getElem k1] at hx
    exact (Option.some.inj hx).symm
  subst ex
  have e1 : us.toArray[j] = u := by
    rw [List.getElem?_eq_getElem l1] at hu
    simpa using Option.some.inj hu
  have e2 : vs.toArray[j] = v := by
    rw [List.getElem?_eq_getElem l2] at hv
    simpa using Option.some.inj hv
  rw [e1, e2]
  exact q u v ru rv
theorem all_true (n : Nat) : (List.range n).all (fun _ => true) = true := by simp
section
variable {X : Cx} {pins : List (Addr × Obj)} {σ : St} {H : Hp} {s : Shared} {A : Around} {a b : Addr} {xs ys : List V}
theorem rcS_tup (I : Inv X pins σ H s) (q : SqT X.K H a xs) (q' : SqT X.K H b ys) (hu : A.units < cLine) (p : Paired (EqS A.in1 s) xs ys) : SeqAt.RcAt A s (.ref a) (.ref b) true ∧ SeqAt.RcNeAt A s (.ref a) (.ref b) false := by
  obtain ⟨its, r, t, _⟩ := I.tuple q
  obtain ⟨its2, r', t', _⟩ := I.tuple q'
  have l : its.toArray.size = its2.toArray.size := by rw [List.size_toArray, List.size_toArray, ← r.length, ← r'.length, p.length]
  have g1 := SeqAt.RcAt.tuples (A := A) (s := s) (l := a) (b := b) (e := fun _ => true) t t' hu (fun j h1 h2 => eqS_items r r' p j h1 h2)
  have g2 := SeqAt.RcNeAt.tuples (A := A) (s := s) (l := a) (b := b) (e := fun _ => true) t t' hu (fun j h1 h2 => eqS_items r r' p j h1 h2)
  rw [all_true, l, beq_self_eq_true] at g1 g2
  exact ⟨g1, g2⟩
theorem rcS_lst (I : Inv X pins σ H s) (q : SqL X.K H a xs) (q' : SqL X.K H b ys) (hu : A.units < cLine) (p : Paired (EqS A.in1 s) xs ys) : SeqAt.RcAt A s (.ref a) (.ref b) true ∧ SeqAt.RcNeAt A s (.ref a) (.ref b) false := by
  obtain ⟨its, r, t, _⟩ := I.list q
  obtain ⟨its2, r', t', _⟩ := I.list q'
  have l : its.toArray.size = its2.toArray.size := by rw [List.size_toArray, List.size_toArray, ← r.length, ← r'.length, p.length]
  have g1 := SeqAt.RcAt.lists (A := A) (s := s) (l := a) (b := b) (e := fun _ => true) t.isList t'.isList l hu (fun j h1 h2 => eqS_items r r' p j h1 h2)
  have g2 := SeqAt.RcNeAt.lists (A := A) (s := s) (l := a) (b := b) (e := fun _ => true) t.isList t'.isList l hu (fun j h1 h2 => eqS_items r r' p j h1 h2)
  rw [all_true] at g1 g2
  exact ⟨g1, g2⟩
theorem eqS_tup (I : Inv X pins σ H s) (q : SqT X.K H a xs) (q' : SqT X.K H b ys) (hu : A.units < cLine) (p : Paired (EqS A.in1 s) xs ys) : EqS A s (.ref a) (.ref b) := by
  rintro u v rfl rfl
  by_cases e : a = b
  · subst e
    exact SeqAt.EqAt.same _
  · exact SeqAt.EqAt.of_refs e (rcS_tup I q q' hu p).1
end
def SameL (X : Cx) (n : Nat) (H : Hp) (xs ys : List V) : Prop := ∀ (pins : List (Addr × Obj)) (σ : St) (s : Shared) (A : Around), Inv X pins σ H s → A.units + n < cLine → Paired (EqS A s) xs ys
section
variable {X : Cx} {n : Nat}
def rSmT (X : Cx) (n : Nat) (c : Bool) : R2 := fun x y H Q => ∃ a b xs ys, x = .ref a ∧ y = .ref b ∧ SqT X.K H a xs ∧ SqT X.K H b ys ∧ SameL X n H xs ys ∧ Q (.bl c) H
def rSmL (X : Cx) (n : Nat) (c : Bool) : R2 := fun x y H Q => ∃ a b xs ys, x = .ref a ∧ y = .ref b ∧ SqL X.K H a xs ∧ SqL X.K H b ys ∧ SameL X n H xs ys ∧ Q (.bl c) H
theorem op_neST (hu : X.A.units + 1 + n < cLine) : OpR X (compareOp .NotEq) (rSmT X n false) := by
  rintro pins s σ H x y v u Q I rx ry ⟨a, b, xs, ys, rfl, rfl, q, q', h, hQ⟩
  cases rx
  cases ry
  exact (rcS_tup (A := X.A) I q q' (by omega) (h pins σ s _ I (by show X.A.units + 1 + n < cLine; exact hu))).2 X.prog X.w _ _ ⟨.bl _, H, I, rfl, hQ⟩
theorem op_eqSL (hu : X.A.units + 1 + n < cLine) : OpR X (compareOp .Eq) (rSmL X n true) := by
  rintro pins s σ H x y v u Q I rx ry ⟨a, b, xs, ys, rfl, rfl, q, q', h, hQ⟩
  cases rx
  cases ry
  exact (rcS_lst (A := X.A) I q q' (by omega) (h pins σ s _ I (by show X.A.units + 1 + n < cLine; exact hu))).1 X.prog X.w _ _ ⟨.bl _, H, I, rfl, hQ⟩
theorem op_neSL (hu : X.A.units + 1 + n < cLine) : OpR X (compareOp .NotEq) (rSmL X n false) := by
  rintro pins s σ H x y v u Q I rx ry ⟨a, b, xs, ys, rfl, rfl, q, q', h, hQ⟩
  cases rx
  cases ry
  exact (rcS_lst (A := X.A) I q q' (by omega) (h pins σ s _ I (by show X.A.units + 1 + n < cLine; exact hu))).2 X.prog X.w _ _ ⟨.bl _, H, I, rfl, hQ⟩
end
inductive F where
  | nil
  | say (n : Int) (ws : List Str) (r : F)
  | tell (n : Int) (sc : Str) (ph : List Str) (bs : List (Str × Str)) (ms : List Str) (r : F)
  | part (n : Int) (i r : F)
  deriving DecidableEq
inductive Th where
  | say (n : Int) (ws : List Str)
  | tell (n : Int) (sc : Str) (ph : List Str) (bs : List (Str × Str)) (ms : List Str)
  | part (n : Int) (i : F)
  deriving DecidableEq
def F.ths : F → List Th
  | .nil => []
  | .say n ws r => .say n ws :: r.ths
  | .tell n sc ph bs ms r => .tell n sc ph bs ms :: r.ths
  | .part n i r => .part n i :: r.ths
def Th.cons : Th → F → F
  | .say n ws, r => .say n ws r
  | .tell n sc ph bs ms, r => .tell n sc ph bs ms r
  | .part n i, r => .part n i r
def F.of : List Th → F
  | [] => .nil
  | t :: r => t.cons (F.of r)
theorem ths_cons (t : Th) (f : F) : (t.cons f).ths = t :: f.ths := by cases t <;> rfl
theorem ths_of : ∀ ts : List Th, (F.of ts).ths = ts
  | [] => rfl
  | t :: r => by
    show (t.cons (F.of r)).ths = _
    rw [ths_cons, ths_of r]
theorem of_ths : ∀ f : F, F.of f.ths = f
  | .nil => rfl
  | .say n ws r => by
    show F.say n ws (F.of r.ths) = _
    rw [of_ths r]
  | .tell n sc ph bs ms r => by
    show F.tell n sc ph bs ms (F.of r.ths) = _
    rw [of_ths r]
  | .part n i r => by
    show F.part n i (F.of r.ths) = _
    rw [of_ths r]
def F.ord : F → List Th
  | .nil => []
  | .say n ws r => .say n ws :: r.ord
  | .tell n sc ph bs ms r => .tell n sc ph bs ms :: r.ord
  | .part n i r => .part n i :: (i.ord ++ r.ord)
def Th.sub : Th → F
  | .part _ i => i
  | _ => .nil
def Th.ord (t : Th) : List Th := t :: t.sub.ord
theorem ord_flat : ∀ f : F, f.ord = f.ths.flatMap Th.ord
  | .nil => rfl
  | .say n ws r => by
    show Th.say n ws :: r.ord = _
    rw [ord_flat r] <;> rfl
  | .tell n sc ph bs ms r => by
    show Th.tell n sc ph bs ms :: r.ord = _
    rw [ord_flat r] <;> rfl
  | .part n i r => by
    show Th.part n i :: (i.ord ++ r.ord) = _
    rw [ord_flat r] <;> rfl
def Th.num : Th → Int
  | .say n _ => n
  | .tell n _ _ _ _ => n
  | .part n _ => n
def F.dep : F → Nat
  | .nil => 0
  | .say _ _ r => r.dep
  | .tell _ _ _ _ _ r => r.dep
  | .part _ i r => max (i.dep + 1) r.dep
def wR (H : Hp) (ws : List Str) (v : V) : Prop := ∃ a, v = .ref a ∧ H a = some (.tup (ws.map V.str))
def cpR (H : Hp) (cp : Str × Str) (v : V) : Prop := ∃ a, v = .ref a ∧ H a = some (.tup [.str cp.1, .str cp.2])
def bR (H : Hp) (bs : List (Str × Str)) (v : V) : Prop := ∃ a xs, v = .ref a ∧ H a = some (.tup xs) ∧ Paired (cpR H) bs xs
def sayR (H : Hp) (n : Int) (ws : List Str) (v : V) : Prop := ∃ a x, v = .ref a ∧ H a = some (.tup [.str "say", .int n, x]) ∧ wR H ws x
def tellR (H : Hp) (n : Int) (sc : Str) (ph : List Str) (bs : List (Str × Str)) (ms : List Str) (v : V) : Prop := ∃ a x y z, v = .ref a ∧ H a = some (.tup [.str "tell", .int n, .str sc, x, y, z]) ∧ wR H ph x ∧ bR H bs y ∧ wR H ms z
def fR (H : Hp) : F → List V → Prop
  | .nil, xs => xs = []
  | .say n ws r, xs => ∃ v ys, xs = v :: ys ∧ sayR H n ws v ∧ fR H r ys
  | .tell n sc ph bs ms r, xs => ∃ v ys, xs = v :: ys ∧ tellR H n sc ph bs ms v ∧ fR H r ys
  | .part n i r, xs => ∃ v ys, xs = v :: ys ∧ (∃ a b zs, v = .ref a ∧ H a = some (.tup [.str "part", .int n, .ref b]) ∧ H b = some (.tup zs) ∧ fR H i zs) ∧ fR H r ys
def partR (H : Hp) (n : Int) (i : F) (v : V) : Prop := ∃ a b zs, v = .ref a ∧ H a = some (.tup [.str "part", .int n, .ref b]) ∧ H b = some (.tup zs) ∧ fR H i zs
def thR (H : Hp) : Th → V → Prop
  | .say n ws, v => sayR H n ws v
  | .tell n sc ph bs ms, v => tellR H n sc ph bs ms v
  | .part n i, v => partR H n i v
theorem fR_iff {H : Hp} : ∀ {f : F} {xs : List V}, fR H f xs ↔ Paired (thR H) f.ths xs
  | .nil, xs => ⟨fun h => by cases (show xs = [] from h); exact .nil, fun h => by cases h; exact rfl⟩
  | .say n ws r, xs => ⟨fun ⟨v, ys, e, q, z⟩ => by subst e; exact .cons q (fR_iff.mp z), fun h => by cases h with | cons q z => exact ⟨_, _, rfl, q, fR_iff.mpr z⟩⟩
  | .tell n sc ph bs ms r, xs => ⟨fun ⟨v, ys, e, q, z⟩ => by subst e; exact .cons q (fR_iff.mp z), fun h => by cases h with | cons q z => exact ⟨_, _, rfl, q, fR_iff.mpr z⟩⟩
  | .part n i r, xs => ⟨fun ⟨v, ys, e, q, z⟩ => by subst e; exact .cons q (fR_iff.mp z), fun h => by cases h with | cons q z => exact ⟨_, _, rfl, q, fR_iff.mpr z⟩⟩
def TSame (H H' : Hp) : Prop := ∀ b xs, H b = some (.tup xs) → H' b = some (.tup xs)
theorem Same.t {H H' : Hp} (g : Same H H') : TSame H H' := fun b xs q => g b _ q
theorem TSame.refl (H : Hp) : TSame H H := fun _ _ q => q
theorem TSame.trans {H H1 H2 : Hp} (g : TSame H H1) (g' : TSame H1 H2) : TSame H H2 := fun b xs q => g' b xs (g b xs q)
theorem TSame.upd {H : Hp} {p : Addr} {o : HO} (h : ∀ xs, H p ≠ some (.tup xs)) : TSame H (upd H p o) := fun b xs q => by
  have hb : b ≠ p := fun e => by
    rw [e] at q
    exact h xs q
  rw [upd_ne hb]
  exact q
theorem TSame.lst {H : Hp} {p : Addr} {ys : List V} {o : HO} (h : H p = some (.lst ys)) : TSame H (L2.upd H p o) := TSame.upd fun xs q => by
  rw [h] at q
  cases q
theorem TSame.new {H : Hp} {p : Addr} {o : HO} (h : H p = none) : TSame H (L2.upd H p o) := TSame.upd fun xs q => by
  rw [h] at q
  cases q
theorem wR.mono {H H' : Hp} {ws : List Str} {v : V} (h : wR H ws v) (g : TSame H H') : wR H' ws v := let ⟨a, e, q⟩ := h; ⟨a, e, g _ _ q⟩
theorem cpR.mono {H H' : Hp} {cp : Str × Str} {v : V} (h : cpR H cp v) (g : TSame H H') : cpR H' cp v := let ⟨a, e, q⟩ := h; ⟨a, e, g _ _ q⟩
theorem bR.mono {H H' : Hp} {bs : List (Str × Str)} {v : V} (h : bR H bs v) (g : TSame H H') : bR H' bs v := let ⟨a, xs, e, q, p⟩ := h; ⟨a, xs, e, g _ _ q, Paired.mapP p fun _ _ z => z.mono g⟩
theorem sayR.mono {H H' : Hp} {n : Int} {ws : List Str} {v : V} (h : sayR H n ws v) (g : TSame H H') : sayR H' n ws v := let ⟨a, x, e, q, p⟩ := h; ⟨a, x, e, g _ _ q, p.mono g⟩
theorem tellR.mono {H H' : Hp} {n : Int} {sc : Str} {ph : List Str} {bs : List (Str × Str)} {ms : List Str} {v : V} (h : tellR H n sc ph bs ms v) (g : TSame H H') : tellR H' n sc ph bs ms v := let ⟨a, x, y, z, e, q, p1, p2, p3⟩ := h; ⟨a, x, y, z, e, g _ _ q, p1.mono g, p2.mono g, p3.mono g⟩
theorem fR_mono {H H' : Hp} (g : TSame H H') : ∀ {f : F} {xs : List V}, fR H f xs → fR H' f xs
  | .nil, _, h => h
  | .say n ws r, _, ⟨v, ys, e, q, z⟩ => ⟨v, ys, e, q.mono g, fR_mono g z⟩
  | .tell n sc ph bs ms r, _, ⟨v, ys, e, q, z⟩ => ⟨v, ys, e, q.mono g, fR_mono g z⟩
  | .part n i r, _, ⟨v, ys, e, ⟨a, b, zs, e1, q1, q2, q3⟩, z⟩ => ⟨v, ys, e, ⟨a, b, zs, e1, g _ _ q1, g _ _ q2, fR_mono g q3⟩, fR_mono g z⟩
theorem thR.mono {H H' : Hp} {t : Th} {v : V} (h : thR H t v) (g : TSame H H') : thR H' t v := by
  cases t with
  | say n ws => exact sayR.mono h g
  | tell n sc ph bs ms => exact tellR.mono h g
  | part n i =>
    obtain ⟨a, b, zs, e, q1, q2, q3⟩ := h
    exact ⟨a, b, zs, e, g _ _ q1, g _ _ q2, fR_mono g q3⟩
abbrev thsR (H : Hp) : List Th → List V → Prop := Paired (thR H)
theorem thsR.mono {H H' : Hp} {ts : List Th} {xs : List V} (h : thsR H ts xs) (g : TSame H H') : thsR H' ts xs := Paired.mapP h fun _ _ z => z.mono g
section
variable {X : Cx} {pins : List (Addr × Obj)} {σ : St} {H : Hp} {s : Shared}
end
end L2
namespace L2
open PySem PySem.Spec PyProof.Rows
section
variable {prog : Program} {w : World} {A : Around} {E : Value → Shared → Prop} {s : Shared}
theorem getItem_tuple_all {t sl : Addr} {items : Array Value} {vl vu : Value} {lo hi : Option Int} {Q : Value → Shared → Prop} (ht : IsTup s.heap t items) (hs : s.heap.IsSliceOf sl vl vu .none) (pl : IsPart vl lo) (pu : IsPart vu hi)
    (hw : HT.sIx items.size 0 lo = 0 ∧ HT.sIx items.size items.size hi = items.size) (h : Q (.ref t) s) : wpAny (model prog w) A (getItem (.ref t) (.ref sl)) Q E s := by
  obtain ⟨o1, e1, c1, _⟩ := id hs
  have k1 : s.TypeIs (.ref sl) "slice" := ⟨o1, e1, c1⟩
  unfold getItem
  try with_reducible refine wpAny_holding ?_
  first | refine wpAny_bind (wpAny_pure ?_) | skip
  refine wpAny_bind (wpAny_sequenceKey ht.typeIs (by decide) (wpAny_bind (wpAny_callSpecial?_slot (name := Str.ofString "__getitem__") ht.typeIs PyProof.Rows.slot_tuple_getitem (wpAny_call_entry PyProof.Rows.slot_tuple_getitem ht.typeIs entry_tuple_getitem ?_ (args_tuple_getitem _ _)))))
  show wpAny _ _ (Builtin.Tuple.tupleItemsOf (.ref t) >>= _) _ _ s
  refine wpAny_bind (tupleItemsOf_ ht (wpAny_bind (wpAny_typeOf k1 ?_)))
  rw [if_pos (by decide)]
  refine wpAny_bind (HT.sliceApplied_gen hs pl pu ?_)
  rw [hw.1, hw.2]
  show wpAny _ _ (if ((((0 : Nat) : Int) == 0 && (1 : Int) == 1 && (items.size - 0) == items.size) = true) then _ else _) _ _ s
  rw [if_pos (by simp)]
  unfold Builtin.Tuple.tupleIsExact
  refine wpAny_bind (wpAny_bind (wpAny_typeOf ht.typeIs (wpAny_pure ?_)))
  rw [if_pos (by decide)]
  first
    | exact wpAny_bind (wpAny_rule (wpAny_pure ⟨_, rfl, wpAny_pure h⟩))
    | exact wpAny_bind (wpAny_rule (wpAny_bind (wpAny_pure (wpAny_pure ⟨_, rfl, wpAny_pure h⟩))))
    | exact wpAny_bind (wpAny_bind (wpAny_rule (wpAny_pure (wpAny_pure ⟨_, rfl, wpAny_pure h⟩))))
    | trace_state
end
section
variable {X : Cx}
def rSlW (K : PySem.W.Frag) : V → Option Int → Option Int → Hp → VK → Prop := fun x lo hi H Q => ∃ a xs, x = .ref a ∧ SqT K H a xs ∧ (HT.sIx xs.length 0 lo = 0 ∧ HT.sIx xs.length xs.length hi = xs.length) ∧ Q (.ref a) H
theorem sl_tupW : SlR X (rSlW X.K) := by
  intro pins s σ H x v vl vu lo hi sl Q I rx hs pl pu h
  obtain ⟨a, xs, rfl, hx, hw, q⟩ := h
  cases rx
  obtain ⟨its, r, ht, hz⟩ := I.tuple hx
  have hlen : its.toArray.size = xs.length := by rw [List.size_toArray]; exact r.length.symm
  exact ⟨"tuple", _, PyProof.Rows.slot_tuple_getitem.lookup, ht.typeIs, getItem_tuple_all ht hs pl pu (by rw [hlen]; exact hw) ⟨.ref a, H, I, rfl, q⟩⟩
end
end L2
namespace L2
open PySem
theorem Same.push {H : Hp} {p : Addr} (h : H p = none) (o : HO) : Same H (upd H p o) := fun b u q => by rw [upd_ne (ne_of_none q h)]; exact q
section
variable {X : Cx}
def rSlX : V → Option Int → Option Int → Hp → VK → Prop := fun x lo hi H Q => ∃ a xs, x = .ref a ∧ H a = some (.tup xs) ∧ ∀ p H', Same H H' → H' p = some (.tup (cutV xs lo hi)) → Q (.ref p) H'
theorem sl_tupX : SlR X rSlX := by
  intro pins s σ H x v vl vu lo hi sl Q I rx hs pl pu h
  refine (SlR.or sl_tup sl_tupW) pins s σ H x v vl vu lo hi sl Q I rx hs pl pu ?_
  obtain ⟨a, xs, rfl, hx, q⟩ := h
  by_cases hw : HT.sIx xs.length 0 lo = 0 ∧ HT.sIx xs.length xs.length hi = xs.length
  · refine .inr ⟨a, xs, rfl, SqT.of hx, hw, q a H (Same.refl H) ?_⟩
    have e : cutV xs lo hi = xs := by
      unfold cutV
      rw [hw.1, hw.2, List.drop_zero, Nat.sub_zero, List.take_length]
    rw [e]
    exact hx
  · exact .inl ⟨a, xs, rfl, SqT.of hx, hw, fun p hp => q p _ (Same.push hp _) upd_same⟩
def rCatX : R2 := fun x y H Q => ∃ a b xs ys, x = .ref a ∧ y = .ref b ∧ H a = some (.tup xs) ∧ H b = some (.tup ys) ∧ xs.length + ys.length ≤ sizeLine ∧ ∀ p H', Same H H' → H' p = some (.tup (xs ++ ys)) → Q (.ref p) H'
theorem op_catX : OpR X (binaryOp .Add) rCatX := by
  intro pins s σ H x y v u Q I rx ry h
  refine (OpR.or op_catT op_catT0) pins s σ H x y v u Q I rx ry ?_
  obtain ⟨a, b, xs, ys, rfl, rfl, ha, hb, hz, q⟩ := h
  cases xs with
  | nil => exact .inr ⟨a, b, ys, rfl, rfl, SqT.of ha, SqT.of hb, q b H (Same.refl H) hb⟩
  | cons z zs =>
    refine .inl ⟨a, b, _, ys, rfl, rfl, SqT.of ha, SqT.of hb, by simp, hz, fun e => ?_, fun e p hp => q p _ (Same.push hp _) upd_same⟩
    subst e
    exact q a H (Same.refl H) (by rw [List.append_nil]; exact ha)
end
end L2
namespace L2
open PySem PySem.Spec PyProof.Rows
section
variable {X : Cx} {N' : List Str} {pins : List (Addr × Obj)} {σ : St} {H : Hp} {s : Shared}
end
end L2
namespace L2
open PySem
section
variable {P : Program} {w : World} {K : PySem.W.Frag} {mg : Str → Option Value} {base : Heap} {f : Addr}
end
end L2
namespace L2
open PySem PySem.Spec PyProof.Rows
def intR : Hp → Int → V → Prop := fun _ z v => v = .int z
theorem eqok_int {X : Cx} {A : Around} : EqOk X A intR where
  eq := fun pins σ H s I a b x y u v ra rb ru rv => by
    cases ra
    cases rb
    obtain ⟨t, rfl⟩ := ru
    obtain ⟨t', rfl⟩ := rv
    have h := SeqAt.EqAt.int_int (A := A) (s := s) a t b t'
    have e : (a == b) = decide (a = b) := by rw [Bool.eq_iff_iff, beq_iff_eq, decide_eq_true_eq]
    rw [e] at h
    exact h
  fn := fun pins σ H s I a b x ra rb => by
    rw [ra] at rb
    exact V.int.inj rb
end L2
namespace L2
open PySem PySem.Spec PyProof.Rows
section
variable {X : Cx} {t : St → Hp → Prop}
end
end L2
namespace L2
open PySem PySem.Spec PyProof.Rows
section
variable {X : Cx}
end
end L2
namespace L2
open PySem PySem.Spec PyProof.Rows
section
variable {κ : Type} [DecidableEq κ]
def valV (kvs : List (κ × V)) (k : κ) : Option V := (kvs.find? fun kv => decide (kv.1 = k)).map (·.2)
def putK (kvs : List (κ × V)) (k : κ) (v : V) : List (κ × V) :=
  if (kvs.any fun kv => decide (kv.1 = k)) = true then kvs.map (fun kv => if kv.1 = k then (kv.1, v) else kv) else kvs ++ [(k, v)]
def dropK (kvs : List (κ × V)) (k : κ) : List (κ × V) := kvs.filter fun kv => decide (kv.1 ≠ k)
theorem valV_pos {p : κ × V} {r : List (κ × V)} {k : κ} (e : p.1 = k) : valV (p :: r) k = some p.2 := by simp [valV, List.find?_cons, e]
theorem valV_neg {p : κ × V} {r : List (κ × V)} {k : κ} (e : ¬ p.1 = k) : valV (p :: r) k = valV r k := by simp [valV, List.find?_cons, e]
theorem valV_any (k : κ) : ∀ kvs : List (κ × V), (kvs.any fun kv => decide (kv.1 = k)) = (valV kvs k).isSome
  | [] => rfl
  | p :: r => by
    rw [List.any_cons]
    by_cases e : p.1 = k
    · simp only [valV_pos e, decide_eq_true e, Bool.true_or, Option.isSome_some]
    · rw [valV_neg e, decide_eq_false e, Bool.false_or]; exact valV_any k r
theorem valV_map (k j : κ) (y : V) : ∀ kvs : List (κ × V), valV (kvs.map fun kv => if kv.1 = k then (kv.1, y) else kv) j = (valV kvs j).map fun x => if j = k then y else x
  | [] => rfl
  | p :: r => by
    have ih := valV_map k j y r
    rw [List.map_cons]
    by_cases h : p.1 = k
    · rw [if_pos h]
      by_cases e : p.1 = j
      · rw [valV_pos (p := (p.1, y)) e, valV_pos e, Option.map_some, if_pos (e.symm.trans h)]
      · rw [valV_neg (p := (p.1, y)) e, valV_neg e, ih]
    · rw [if_neg h]
      by_cases e : p.1 = j
      · rw [valV_pos (p := p) e, valV_pos e, Option.map_some, if_neg (fun z => h (e.trans z))]
      · rw [valV_neg (p := p) e, valV_neg e, ih]
theorem valV_snoc (k j : κ) (y : V) : ∀ kvs : List (κ × V), valV kvs k = none → valV (kvs ++ [(k, y)]) j = if j = k then some y else valV kvs j
  | [], _ => by
    by_cases e : k = j
    · rw [if_pos e.symm]; exact valV_pos (p := (k, y)) e
    · rw [if_neg (fun z => e z.symm)]; exact valV_neg (p := (k, y)) e
  | p :: r, hn => by
    rw [List.cons_append]
    have hk : ¬ p.1 = k := fun z => by rw [valV_pos z] at hn; cases hn
    rw [valV_neg hk] at hn
    have ih := valV_snoc k j y r hn
    by_cases e : p.1 = j
    · rw [valV_pos e, valV_pos e, if_neg (fun z => hk (e.trans z))]
    · rw [valV_neg e, valV_neg e, ih]
theorem valV_put (kvs : List (κ × V)) (k j : κ) (y : V) : valV (putK kvs k y) j = if j = k then some y else valV kvs j := by
  unfold putK
  by_cases a : (kvs.any fun kv => decide (kv.1 = k)) = true
  · rw [if_pos a, valV_map]
    rw [valV_any] at a
    by_cases e : j = k
    · obtain ⟨x, hx⟩ := Option.isSome_iff_exists.mp a
      rw [if_pos e, e, hx, Option.map_some, if_pos rfl]
    · rw [if_neg e]
      cases valV kvs j with
      | none => rfl
      | some x => rw [Option.map_some, if_neg e]
  · rw [if_neg a]
    refine valV_snoc k j y kvs ?_
    rw [valV_any] at a
    cases q : valV kvs k with
    | none => rfl
    | some x => rw [q] at a; exact (a rfl).elim
theorem length_putK (kvs : List (κ × V)) (k : κ) (v : V) : (putK kvs k v).length ≤ kvs.length + 1 := by
  unfold putK
  split
  · rw [List.length_map]; omega
  · rw [List.length_append, List.length_cons, List.length_nil]; omega
theorem RelO.isSome_eq {o : Option V} {u : Option Value} (r : RelO o u) : o.isSome = u.isSome := by
  cases o with
  | none => cases u with
    | none => rfl
    | some _ => exact (show False from r).elim
  | some _ => cases u with
    | none => exact (show False from r).elim
    | some _ => rfl
theorem RelO.getD {o : Option V} {u : Option Value} {d : V} {d' : Value} (r : RelO o u) (rd : RelV d d') : RelV (o.getD d) (u.getD d') := by
  cases o with
  | none => cases u with
    | none => exact rd
    | some _ => exact (show False from r).elim
  | some _ => cases u with
    | none => exact (show False from r).elim
    | some _ => exact r
theorem KV.val {kvs : List (κ × V)} {vs : List (κ × Value)} (r : KV kvs vs) (k : κ) : RelO (valV kvs k) (valueAt vs k) := by
  unfold KV at r
  induction r with
  | nil => exact True.intro
  | @cons p q ps qs h t ih =>
    obtain ⟨h1, h2⟩ := h
    by_cases e : p.1 = k
    · have e' : q.1 = k := h1.symm.trans e
      have b : valueAt (q :: qs) k = some q.2 := by simp [valueAt, List.find?_cons, e']
      rw [valV_pos e, b]; exact h2
    · have e' : ¬ q.1 = k := fun z => e (h1.trans z)
      have b : valueAt (q :: qs) k = valueAt qs k := by simp [valueAt, List.find?_cons, e']
      rw [valV_neg e, b]; exact ih
theorem KV.any {kvs : List (κ × V)} {vs : List (κ × Value)} (r : KV kvs vs) (k : κ) : (kvs.any fun kv => decide (kv.1 = k)) = vs.any fun kv => decide (kv.1 = k) := by
  unfold KV at r
  induction r with
  | nil => rfl
  | cons h t ih => rw [List.any_cons, List.any_cons, ih, h.1]
theorem KV.repl {kvs : List (κ × V)} {vs : List (κ × Value)} (r : KV kvs vs) (k : κ) {y : V} {u : Value} (ry : RelV y u) :
    KV (kvs.map fun kv => if kv.1 = k then (kv.1, y) else kv) (vs.map fun kv => if kv.1 = k then (kv.1, u) else kv) := by
  unfold KV at r ⊢
  induction r with
  | nil => exact .nil
  | @cons p q ps qs h t ih =>
    rw [List.map_cons, List.map_cons]
    refine .cons ?_ ih
    obtain ⟨h1, h2⟩ := h
    by_cases e : p.1 = k
    · rw [if_pos e, if_pos (h1.symm.trans e)]; exact ⟨h1, ry⟩
    · rw [if_neg e, if_neg (fun z => e (h1.trans z))]; exact ⟨h1, h2⟩
theorem KV.put {kvs : List (κ × V)} {vs : List (κ × Value)} (r : KV kvs vs) (k : κ) {y : V} {u : Value} (ry : RelV y u) : KV (putK kvs k y) (stored vs k u) := by
  unfold putK stored
  rw [r.any k]
  by_cases e : (vs.any fun kv => decide (kv.1 = k)) = true
  · rw [if_pos e, if_pos e]; exact r.repl k ry
  · rw [if_neg e, if_neg e]; exact Paired.snoc r ⟨rfl, ry⟩
theorem KV.drop {kvs : List (κ × V)} {vs : List (κ × Value)} (r : KV kvs vs) (k : κ) : KV (dropK kvs k) (without vs k) := by
  unfold KV at r ⊢
  unfold dropK without
  induction r with
  | nil => exact .nil
  | @cons p q ps qs h t ih =>
    obtain ⟨h1, h2⟩ := h
    rw [List.filter_cons, List.filter_cons]
    by_cases e : p.1 = k
    · have a : ¬ decide (p.1 ≠ k) = true := by simp [e]
      have b : ¬ decide (q.1 ≠ k) = true := by simp [h1.symm.trans e]
      rw [if_neg a, if_neg b]; exact ih
    · have e' : ¬ q.1 = k := fun z => e (h1.trans z)
      have a : decide (p.1 ≠ k) = true := by simp [e]
      have b : decide (q.1 ≠ k) = true := by simp [e']
      rw [if_pos a, if_pos b]; exact .cons ⟨h1, h2⟩ ih
theorem KV.length {kvs : List (κ × V)} {vs : List (κ × Value)} (r : KV kvs vs) : kvs.length = vs.length := Paired.length r
end
theorem kV_is {P : Program} {w : World} {k : Key} {u : Value} (r : RelV (kV k) u) : (mixKind P w).is k u = true := by
  cases k with
  | inl i => obtain ⟨t, e⟩ := (show ∃ t, u = Value.int i t from r); subst e; exact mixKind_int P w i t
  | inr x => obtain ⟨t, e⟩ := (show ∃ t, u = Value.str x t from r); subst e; exact mixKind_str P w x t
theorem items_are {P : Program} {w : World} : ∀ {ks : List Key} {us : List Value}, Vals (ks.map kV) us → ItemsAre (mixKind P w) ks us
  | [], _, r => by rw [List.map_nil] at r; cases r; exact .nil
  | k :: ks, _, r => by
    rw [List.map_cons] at r
    cases r with
    | cons h t => exact .cons (kV_is h) (items_are t)
abbrev KT (H : Hp) : List (List Key × V) → List (List Key × Addr × Value) → Prop := Paired fun p q => p.1 = q.1 ∧ H q.2.1 = some (.tup (p.1.map kV)) ∧ RelV p.2 q.2.2
theorem KT.val {H : Hp} {kvs : List (List Key × V)} {xs : List (List Key × Addr × Value)} (r : KT H kvs xs) (k : List Key) : RelO (valV kvs k) ((atKey xs k).map (·.2)) := by
  induction r with
  | nil => exact True.intro
  | @cons p q ps qs h t ih =>
    obtain ⟨h1, _, h2⟩ := h
    by_cases e : p.1 = k
    · have e' : q.1 = k := h1.symm.trans e
      have b : atKey (q :: qs) k = some q.2 := by simp [atKey, List.find?_cons, e']
      rw [valV_pos e, b]; exact h2
    · have e' : ¬ q.1 = k := fun z => e (h1.trans z)
      have b : atKey (q :: qs) k = atKey qs k := by simp [atKey, List.find?_cons, e']
      rw [valV_neg e, b]; exact ih
theorem KT.repl {H : Hp} {kvs : List (List Key × V)} {xs : List (List Key × Addr × Value)} (r : KT H kvs xs) (k : List Key) {y : V} {u : Value} (ry : RelV y u) :
    KT H (kvs.map fun kv => if kv.1 = k then (kv.1, y) else kv) (xs.map (putAt k u)) := by
  induction r with
  | nil => exact .nil
  | @cons p q ps qs h t ih =>
    rw [List.map_cons, List.map_cons]
    refine .cons ?_ ih
    obtain ⟨h1, h2, h3⟩ := h
    unfold putAt
    by_cases e : p.1 = k
    · rw [if_pos e, if_pos (h1.symm.trans e)]; exact ⟨h1, h2, ry⟩
    · rw [if_neg e, if_neg (fun z => e (h1.trans z))]; exact ⟨h1, h2, h3⟩
theorem KT.put {H : Hp} {kvs : List (List Key × V)} {xs : List (List Key × Addr × Value)} (r : KT H kvs xs) (k : List Key) {b : Addr} {y : V} {u : Value} (hb : H b = some (.tup (k.map kV))) (ry : RelV y u) :
    KT H (putK kvs k y) (storedH xs k b u) := by
  have e : (kvs.any fun kv => decide (kv.1 = k)) = (atKey xs k).isSome := by
    rw [valV_any, (r.val k).isSome_eq, Option.isSome_map]
  unfold putK storedH
  rw [e]
  by_cases q : (atKey xs k).isSome = true
  · rw [if_pos q, if_pos q]; exact r.repl k ry
  · rw [if_neg q, if_neg q]; exact Paired.snoc r ⟨rfl, hb, ry⟩
theorem KT.keeps {H H' : Hp} {kvs : List (List Key × V)} {xs : List (List Key × Addr × Value)} (r : KT H kvs xs) (ht : ∀ b ys, H b = some (.tup ys) → H' b = some (.tup ys)) : KT H' kvs xs :=
  Paired.mapP r fun _ _ z => ⟨z.1, ht _ _ z.2.1, z.2.2⟩
section
variable {P : Program} {w : World} {H : Hp} {h : Heap} {a : Addr}
theorem rd_of {u : HO} (ok : HOk P w H h) (e : Rd H a u) : ObjOk P w H h a u := e.ok ok
theorem dk_rd {kvs : List (Key × V)} (ok : HOk P w H h) (e : Rd H a (.dK kvs)) : kvs.length ≤ sizeLine ∧ (a == sysModules) = false ∧ ∃ vs, KV kvs vs ∧ h.DictOf (mixKind P w) a vs :=
  show ObjOk P w H h a (.dK kvs) from rd_of ok e
theorem dk_of {kvs : List (Key × V)} (ok : HOk P w H h) (e : H a = some (.dK kvs)) : kvs.length ≤ sizeLine ∧ (a == sysModules) = false ∧ ∃ vs, KV kvs vs ∧ h.DictOf (mixKind P w) a vs := dk_rd ok (.inl e)
theorem key_of {ks : List Key} (ok : HOk P w H h) (e : H a = some (.tup (ks.map kV))) : (tupleKind (mixKind P w)).is h ks a := by
  obtain ⟨_, its, r, o, h1, h2, n, h3⟩ := (show ObjOk P w H h a (.tup (ks.map kV)) from ok a _ e)
  exact ⟨o, its.toArray, n, h1, h2, h3, by simpa using items_are r⟩
theorem dt_rd {kvs : List (List Key × V)} (ok : HOk P w H h) (e : Rd H a (.dT kvs)) : kvs.length ≤ sizeLine ∧ (a == sysModules) = false ∧
    ∃ xs, KT H kvs xs ∧ h.DictOfH (tupleKind (mixKind P w)) a xs := by
  obtain ⟨z, y, xs, r, o, es, ep, h1, h2, h3, h4, h5⟩ := (show ObjOk P w H h a (.dT kvs) from rd_of ok e)
  refine ⟨z, y, xs, r, o, es, ep, h1, h2, h3, h4, fun x hx => ?_, h5⟩
  have all : ∀ {l : List (List Key × V)} {m : List (List Key × Addr × Value)}, KT H l m → ∀ x ∈ m, (tupleKind (mixKind P w)).is h x.1 x.2.1 := by
    intro l m q
    induction q with
    | nil => intro x hx; exact nomatch hx
    | @cons p q ps qs hq t ih =>
      intro x hx
      rcases List.mem_cons.mp hx with e | hx
      · subst e
        exact key_of ok (by rw [← hq.1]; exact hq.2.1)
      · exact ih x hx
  exact all r x hx
theorem dt_of {kvs : List (List Key × V)} (ok : HOk P w H h) (e : H a = some (.dT kvs)) : kvs.length ≤ sizeLine ∧ (a == sysModules) = false ∧
    ∃ xs, KT H kvs xs ∧ h.DictOfH (tupleKind (mixKind P w)) a xs := dt_rd ok (.inl e)
end
def DGet (H : Hp) (a : Addr) (y : V) (r : Option V) : Prop :=
  (∃ kvs k, Rd H a (.dK kvs) ∧ y = kV k ∧ r = valV kvs k) ∨ ∃ kvs k b, Rd H a (.dT kvs) ∧ y = .ref b ∧ H b = some (.tup (k.map kV)) ∧ r = valV kvs k
def DPut (H : Hp) (a : Addr) (y v : V) (H' : Hp) : Prop :=
  (∃ kvs k, H a = some (.dK kvs) ∧ y = kV k ∧ kvs.length < sizeLine ∧ H' = upd H a (.dK (putK kvs k v))) ∨
  ∃ kvs k b, H a = some (.dT kvs) ∧ y = .ref b ∧ H b = some (.tup (k.map kV)) ∧ kvs.length < sizeLine ∧ H' = upd H a (.dT (putK kvs k v))
theorem DGet.k {H : Hp} {a : Addr} {kvs : List (Key × V)} {k : Key} (e : H a = some (.dK kvs)) : DGet H a (kV k) (valV kvs k) := .inl ⟨kvs, k, .inl e, rfl, rfl⟩
theorem DGet.t {H : Hp} {a b : Addr} {kvs : List (List Key × V)} {k : List Key} (e : H a = some (.dT kvs)) (eb : H b = some (.tup (k.map kV))) : DGet H a (.ref b) (valV kvs k) := .inr ⟨kvs, k, b, .inl e, rfl, eb, rfl⟩
theorem DPut.k {H : Hp} {a : Addr} {kvs : List (Key × V)} {k : Key} {v : V} (e : H a = some (.dK kvs)) (hl : kvs.length < sizeLine) : DPut H a (kV k) v (upd H a (.dK (putK kvs k v))) := .inl ⟨kvs, k, e, rfl, hl, rfl⟩
theorem DPut.t {H : Hp} {a b : Addr} {kvs : List (List Key × V)} {k : List Key} {v : V} (e : H a = some (.dT kvs)) (eb : H b = some (.tup (k.map kV))) (hl : kvs.length < sizeLine) :
    DPut H a (.ref b) v (upd H a (.dT (putK kvs k v))) := .inr ⟨kvs, k, b, e, rfl, eb, hl, rfl⟩
section
variable {X : Cx} {pins : List (Addr × Obj)} {σ : St} {H : Hp} {s : Shared} {a : Addr} {y v : V} {u r : Value} {o : Option V} {A : Around} {E : Value → Shared → Prop}
theorem d_getItem {Q : Value → Shared → Prop} (hu : A.units + 1 < cLine) (I : Inv X pins σ H s) (g : DGet H a y (some v)) (ry : RelV y u) (h : ∀ w' s', Inv X pins σ H s' → RelV v w' → Q w' s') :
    wpAny (model X.prog X.w) A (getItem (.ref a) u) Q E s := by
  rcases g with ⟨kvs, k, e, ey, l⟩ | ⟨kvs, k, b, e, ey, eb, l⟩
  · subst ey
    obtain ⟨z, hd, vs, rel, dd⟩ := dk_rd I.hok e
    obtain ⟨w', hw, rw'⟩ := RelO.some_of (v := v) (o := valueAt vs k) (by rw [l]; exact rel.val k)
    exact wpAny_getItem_of (kV_is ry) dd.mapOf hw (h w' _ (I.tok _) rw')
  · subst ey
    cases (show u = Value.ref b from ry)
    obtain ⟨z, hd, xs, rel, dd⟩ := dt_rd I.hok e
    obtain ⟨w', hw, rw'⟩ := RelO.some_of (v := v) (o := (atKey xs k).map (·.2)) (by rw [l]; exact rel.val k)
    obtain ⟨p, hp, hp2⟩ := Option.map_eq_some_iff.mp hw
    refine wpAny_getItem_heap (tupleKind_room_in1 hu) (key_of I.hok eb) dd hp ?_
    rw [hp2]
    exact h w' _ (I.tok _) rw'
theorem d_in {Q : Value → Shared → Prop} (hu : A.units + 1 < cLine) (I : Inv X pins σ H s) (g : DGet H a y o) (ry : RelV y u) (h : ∀ s', Inv X pins σ H s' → Q (.bool o.isSome) s') :
    wpAny (model X.prog X.w) A (compareOp .In u (.ref a)) Q E s := by
  rcases g with ⟨kvs, k, e, ey, l⟩ | ⟨kvs, k, b, e, ey, eb, l⟩
  · subst ey
    obtain ⟨z, hd, vs, rel, dd⟩ := dk_rd I.hok e
    refine wpAny_in_of (kV_is ry) hd dd.mapOf ?_
    rw [← (rel.val k).isSome_eq, ← l]
    exact h _ (I.tok _)
  · subst ey
    cases (show u = Value.ref b from ry)
    obtain ⟨z, hd, xs, rel, dd⟩ := dt_rd I.hok e
    refine wpAny_in_heap (tupleKind_room_in1 hu) (key_of I.hok eb) hd dd ?_
    have q := (rel.val k).isSome_eq
    rw [Option.isSome_map] at q
    rw [← q, ← l]
    exact h _ (I.tok _)
theorem d_notIn {Q : Value → Shared → Prop} (hu : A.units + 1 < cLine) (I : Inv X pins σ H s) (g : DGet H a y o) (ry : RelV y u) (h : ∀ s', Inv X pins σ H s' → Q (.bool (!o.isSome)) s') :
    wpAny (model X.prog X.w) A (compareOp .NotIn u (.ref a)) Q E s := by
  rcases g with ⟨kvs, k, e, ey, l⟩ | ⟨kvs, k, b, e, ey, eb, l⟩
  · subst ey
    obtain ⟨z, hd, vs, rel, dd⟩ := dk_rd I.hok e
    refine wpAny_notIn_of (kV_is ry) hd dd.mapOf ?_
    rw [← (rel.val k).isSome_eq, ← l]
    exact h _ (I.tok _)
  · subst ey
    cases (show u = Value.ref b from ry)
    obtain ⟨z, hd, xs, rel, dd⟩ := dt_rd I.hok e
    refine wpAny_notIn_heap (tupleKind_room_in1 hu) (key_of I.hok eb) hd dd ?_
    have q := (rel.val k).isSome_eq
    rw [Option.isSome_map] at q
    rw [← q, ← l]
    exact h _ (I.tok _)
theorem d_write {h' : Heap} {t' : Nat} {ob : HO} (I : Inv X pins σ H s) (mu : Mut (H a)) (hs : Heap.SameBut a s.heap h') (he : ∃ q, h'.get? a = some q) (new : ObjOk X.prog X.w (upd H a ob) h' a ob) :
    Inv X pins σ (upd H a ob) { s with heap := h', toks := t' } :=
  I.write (x := a) (e := a) mu (.inl rfl) (fun b q hb z => (hs.2 b hb).trans z) he new
theorem dk_new {P : Program} {w : World} {H' : Hp} {h' : Heap} {kvs : List (Key × V)} {vs : List (Key × Value)} (z : kvs.length ≤ sizeLine) (hd : (a == sysModules) = false) (rel : KV kvs vs) (dd : h'.DictOf (mixKind P w) a vs) :
    ObjOk P w H' h' a (.dK kvs) := ⟨z, hd, vs, rel, dd⟩
theorem d_setItem {H' : Hp} {Q : Unit → Shared → Prop} (hu : A.units + 1 < cLine) (I : Inv X pins σ H s) (g : DPut H a y v H') (ry : RelV y u) (rv : RelV v r) (h : ∀ s', Inv X pins σ H' s' → Q () s') :
    wpAny (model X.prog X.w) A (setItem (.ref a) u r) Q E s := by
  rcases g with ⟨kvs, k, e, ey, l, eH⟩ | ⟨kvs, k, b, e, ey, eb, l, eH⟩
  · subst ey eH
    obtain ⟨z, hd, vs, rel, dd⟩ := dk_of I.hok e
    have hz : vs.length ≤ sizeLine := by rw [← rel.length]; exact z
    have hl : (putK kvs k v).length ≤ sizeLine := by have := length_putK kvs k v; omega
    refine wpAny_setItem_pairs (hsz := hz) (kV_is ry) dd fun h' dd' hs => h _ ?_
    have he : ∃ q, h'.get? a = some q := let ⟨q, _, _, hq, _⟩ := dd'; ⟨q, hq⟩
    exact d_write I (by rw [e]; exact True.intro) hs he (dk_new hl hd (rel.put k rv) dd')
  · subst ey eH
    cases (show u = Value.ref b from ry)
    obtain ⟨z, hd, xs, rel, dd⟩ := dt_of I.hok e
    have hz : xs.length ≤ sizeLine := by rw [← Paired.length rel]; exact z
    have hl : (putK kvs k v).length ≤ sizeLine := by have := length_putK kvs k v; omega
    refine wpAny_setItem_heap (hsz := hz) (tupleKind_room_in1 hu) (key_of I.hok eb) dd fun h' dd' hs => h _ ?_
    obtain ⟨q, es, ep, hq, h2, h3, h4, _, h5⟩ := dd'
    refine d_write I (by rw [e]; exact True.intro) hs ⟨q, hq⟩ ⟨hl, hd, _, (rel.put k eb rv).keeps fun c ys ec => ?_, q, es, ep, hq, h2, h3, h4, h5⟩
    rw [upd_ne (ne_of ec e (fun z => nomatch z))]
    exact ec
end
section
variable {X : Cx} {pins : List (Addr × Obj)} {σ : St} {H : Hp} {s : Shared} {a : Addr} {kvs : List (Key × V)} {k : Key} {u : Value} {A : Around} {E : Value → Shared → Prop}
end
def NoSl (i : Expr) : Prop := ∀ ov iv, subscripted i false ov iv = operate [ov, iv] (getItem ov iv)
theorem subD_of {prog : Program} {w : World} {A : Around} {E : Value → Shared → Prop} {s : Shared} {env : Env} {value slice : Expr} {pos : Pos} {T id : String} {Q : Value → Shared → Prop}
    (hl : typeLookup (.type T) "__getitem__" = pure (some (.builtin id))) (hs : NoSl slice)
    (h : wpAny (model prog w) A (eval value env) (fun o s₁ => wpAny (model prog w) A (eval slice env) (fun i s₂ => s₂.TypeIs o T ∧ wpAny (model prog w) A (getItem o i) Q E s₂) E s₁) E s) :
    wpAny (model prog w) A (eval (.Subscript value slice pos) env) Q E s := by
  refine Subscript_ (wpAny_mono h (fun o s₁ h₁ => wpAny_mono h₁ (fun i s₂ h₂ => ?_) fun _ _ x => x) fun _ _ x => x)
  obtain ⟨hT, h₂⟩ := h₂
  unfold subscriptTail
  refine wpAny_bind ?_
  rw [getitemInPython_of_ne hT.not_modules]
  refine wpAny_bind (wpAny_specialOf hT hl ?_)
  have fin : wpAny (model prog w) A (subscripted slice false o i) (fun r s₃ => wpAny (model prog w) A (letTemporaryGo value o r >>= fun _ => pure r) Q E s₃) E s₂ := by
    rw [hs o i]
    exact wpAny_operating (wpAny_mono h₂ (fun r s₃ h₃ => wpAny_bind (wpAny_letTemporaryGo (wpAny_pure h₃))) fun _ _ x => x)
  first
    | exact wpAny_pure (wpAny_bind fin)
    | exact wpAny_bind (wpAny_pure (wpAny_bind fin))
    | exact wpAny_bind fin
theorem dict_typeIs {X : Cx} {pins : List (Addr × Obj)} {σ : St} {H : Hp} {s : Shared} {a : Addr} {y : V} {o : Option V} (I : Inv X pins σ H s) (g : DGet H a y o) : s.TypeIs (.ref a) "dict" := by
  rcases g with ⟨kvs, k, e, _, _⟩ | ⟨kvs, k, b, e, _, _, _⟩
  · obtain ⟨_, _, vs, _, dd⟩ := dk_rd I.hok e
    exact dd.typeIs
  · obtain ⟨_, _, xs, _, dd⟩ := dt_rd I.hok e
    exact dd.typeIs
def tDGet (td ty : TE) : TE := fun σ H Q => td σ H fun x H1 => ty σ H1 fun y H2 => ∃ a v, x = .ref a ∧ DGet H2 a y (some v) ∧ Q v H2
def tDIn (ty td : TE) : TE := fun σ H Q => ty σ H fun y H1 => td σ H1 fun x H2 => ∃ a o, x = .ref a ∧ DGet H2 a y o ∧ Q (.bl o.isSome) H2
def tDNotIn (ty td : TE) : TE := fun σ H Q => ty σ H fun y H1 => td σ H1 fun x H2 => ∃ a o, x = .ref a ∧ DGet H2 a y o ∧ Q (.bl (!o.isSome)) H2
def sDPut (td ty tv : TE) : TS := fun D σ H => tv σ H fun v H1 => td σ H1 fun x H2 => ty σ H2 fun y H3 => ∃ a H4, x = .ref a ∧ DPut H3 a y v H4 ∧ D.nx σ H4
section
variable {X : Cx} {o i e value : Expr} {pos pos' tpos : Pos} {td ty tv : TE}
theorem pe_dget (hu : X.A.units + 1 < cLine) (ho : PE X o td) (hi : PE X i ty) (hs : NoSl i) : PE X (.Subscript o i pos) (tDGet td ty) := by
  intro pins s σ H Q I h
  refine subD_of PySem.F.slot_dict_getitem.lookup hs (thn (ho pins s σ H _ I h) fun u s1 ⟨x, H1, I1, rx, q1⟩ => thn (hi pins s1 σ H1 _ I1 q1) fun iv s2 ⟨y, H2, I2, ry, a, v, ex, g, q2⟩ => ?_)
  subst ex
  obtain rfl : u = Value.ref a := rx
  exact ⟨dict_typeIs I2 g, d_getItem hu I2 g ry fun w' s3 I3 rw' => ⟨v, H2, I3, rw', q2⟩⟩
theorem pc_din (hu : X.A.units + 1 < cLine) (hi : PE X i ty) (ho : PE X o td) : PC X .In i o (tDIn ty td) := by
  intro pins s σ H Q I h
  refine thn (hi pins s σ H _ I h) fun iv s1 ⟨y, H1, I1, ry, q1⟩ => thn (ho pins s1 σ H1 _ I1 q1) fun u s2 ⟨x, H2, I2, rx, a, ov, ex, g, q2⟩ => ?_
  subst ex
  obtain rfl : u = Value.ref a := rx
  exact d_in hu I2 g ry fun s3 I3 => ⟨.bl ov.isSome, H2, I3, rfl, q2⟩
theorem pc_dnotin (hu : X.A.units + 1 < cLine) (hi : PE X i ty) (ho : PE X o td) : PC X .NotIn i o (tDNotIn ty td) := by
  intro pins s σ H Q I h
  refine thn (hi pins s σ H _ I h) fun iv s1 ⟨y, H1, I1, ry, q1⟩ => thn (ho pins s1 σ H1 _ I1 q1) fun u s2 ⟨x, H2, I2, rx, a, ov, ex, g, q2⟩ => ?_
  subst ex
  obtain rfl : u = Value.ref a := rx
  exact d_notIn hu I2 g ry fun s3 I3 => ⟨.bl (!ov.isSome), H2, I3, rfl, q2⟩
theorem ps_dput (hu : X.A.units + 1 < cLine) (ho : PE X o td) (hi : PE X i ty) (hv : PE X value tv) (hs : swapsWith value (some (.Subscript o i pos')) pos.line X.env = pure false) :
    PS X (.Assign [.Subscript o i pos'] value pos) (sDPut td ty tv) := by
  intro pins s σ H D I h
  refine wpAny_Assign_Subscript (thn (hv pins s σ H _ I h) fun r s1 ⟨v, H1, I1, rv, q1⟩ => thn (ho pins s1 σ H1 _ I1 q1) fun u s2 ⟨x, H2, I2, rx, q2⟩ => thn (hi pins s2 σ H2 _ I2 q2) fun iv s3 ⟨y, H3, I3, ry, a, H4, ex, g, q3⟩ => ?_) hs
  subst ex
  obtain rfl : u = Value.ref a := rx
  exact d_setItem hu I3 g ry rv fun s4 I4 => ⟨σ, H4, I4, q3⟩
end
theorem dk_empty {P : Program} {w : World} {H : Hp} (h : Heap) (hb : sysModules < h.objs.size) : ObjOk P w H (h.push { cls := .type "dict", data := .dict #[] }) h.objs.size (.dK []) :=
  ⟨Nat.zero_le _, beq_eq_false_iff_ne.mpr (Ne.symm (Nat.ne_of_lt hb)), [], .nil, Heap.DictOf.new h⟩
theorem dt_empty {P : Program} {w : World} {H : Hp} (h : Heap) (hb : sysModules < h.objs.size) : ObjOk P w H (h.push { cls := .type "dict", data := .dict #[] }) h.objs.size (.dT []) :=
  ⟨Nat.zero_le _, beq_eq_false_iff_ne.mpr (Ne.symm (Nat.ne_of_lt hb)), [], .nil, _, #[], 0, Heap.get?_push_size _ rfl, ⟨rfl, rfl, rfl⟩, rfl, rfl, List.nodup_nil⟩
def tDNewK : TE := fun _ H Q => ∀ p, H p = none → Q (.ref p) (upd H p (.dK []))
def tDNewT : TE := fun _ H Q => ∀ p, H p = none → Q (.ref p) (upd H p (.dT []))
section
variable {X : Cx} {pos : Pos}
theorem pe_dnewK : PE X (.Dict [] [] pos) tDNewK := fun pins s σ H Q I h =>
  wpAny_Dict_empty ⟨.ref s.heap.objs.size, _, I.laid (a := s.heap.objs.size) (o := .dK []) (t' := s.toks) (fun _ _ q => Heap.get?_push_of_some _ q) (Nat.le_refl _) (dk_empty s.heap I.big), rfl, h _ (I.hok.fresh (Nat.le_refl _))⟩
theorem pe_dnewT : PE X (.Dict [] [] pos) tDNewT := fun pins s σ H Q I h =>
  wpAny_Dict_empty ⟨.ref s.heap.objs.size, _, I.laid (a := s.heap.objs.size) (o := .dT []) (t' := s.toks) (fun _ _ q => Heap.get?_push_of_some _ q) (Nat.le_refl _) (dt_empty s.heap I.big), rfl, h _ (I.hok.fresh (Nat.le_refl _))⟩
end
structure M1 (X : Cx) (o : Expr) (m : Str) (apos : Pos) (e : Expr) (cpos : Pos) : Prop where
  base : attributeBase o m X.env (eval o X.env) = eval o X.env
  few : ((backTo cpos (starEach [e] X.env)).all (fun x => !x.1) && (backToKw cpos (keywordEach [] X.env)).all (fun x => x.1.isSome)
    && decide (([e] : List Expr).length + ([] : List Keyword).length + (if ([] : List Keyword).isEmpty then 0 else 1) < 30)) = true
  line : (apos.endLine == cpos.line) = true
  trees : backTo cpos (starEach [e] X.env) = [(false, eval e X.env)]
structure M2 (X : Cx) (o : Expr) (m : Str) (apos : Pos) (e f : Expr) (cpos : Pos) : Prop where
  base : attributeBase o m X.env (eval o X.env) = eval o X.env
  few : ((backTo cpos (starEach [e, f] X.env)).all (fun x => !x.1) && (backToKw cpos (keywordEach [] X.env)).all (fun x => x.1.isSome)
    && decide (([e, f] : List Expr).length + ([] : List Keyword).length + (if ([] : List Keyword).isEmpty then 0 else 1) < 30)) = true
  line : (apos.endLine == cpos.line) = true
  trees : backTo cpos (starEach [e, f] X.env) = [(false, eval e X.env), (false, eval f X.env)]
def IsD (H : Hp) (a : Addr) : Prop := (∃ kvs, Rd H a (.dK kvs)) ∨ ∃ kvs, Rd H a (.dT kvs)
theorem isD_at {X : Cx} {pins : List (Addr × Obj)} {σ : St} {H : Hp} {s : Shared} {a : Addr} (I : Inv X pins σ H s) (d : IsD H a) :
    s.TypeIs (.ref a) "dict" ∧ (∀ b, Value.ref a = .ref b → ∃ ob, s.heap.get? b = some ob ∧ ob.dict = none) ∧ (a == sysModules) = false := by
  rcases d with ⟨kvs, e⟩ | ⟨kvs, e⟩
  · obtain ⟨_, hd, vs, _, dd⟩ := dk_rd I.hok e
    refine ⟨dd.typeIs, fun b q => ?_, hd⟩
    cases q
    obtain ⟨ob, _, _, h1, h2, _⟩ := dd
    exact ⟨ob, h1, h2.2.1⟩
  · obtain ⟨_, hd, xs, _, dd⟩ := dt_rd I.hok e
    refine ⟨dd.typeIs, fun b q => ?_, hd⟩
    cases q
    obtain ⟨ob, _, _, h1, h2, _⟩ := dd
    exact ⟨ob, h1, h2.2.1⟩
section
variable {X : Cx} {pins : List (Addr × Obj)} {σ : St} {H : Hp} {s : Shared} {a : Addr} {y d : V} {u r : Value} {o : Option V} {A : Around} {E : Value → Shared → Prop}
theorem d_get2 {Q : Value → Shared → Prop} (hu : A.units + 1 < cLine) (I : Inv X pins σ H s) (g : DGet H a y o) (ry : RelV y u) (rd : RelV d r) (h : ∀ w' s', Inv X pins σ H s' → RelV (o.getD d) w' → Q w' s') :
    wpAny (model X.prog X.w) A (call (.builtin "dict.get") [.ref a, u, r]) Q E s := by
  rcases g with ⟨kvs, k, e, ey, l⟩ | ⟨kvs, k, b, e, ey, eb, l⟩
  · subst ey
    obtain ⟨z, hd, vs, rel, dd⟩ := dk_rd I.hok e
    refine call_meetsIn PySem.F.slot_dict_get dd.typeIs PySem.F.entry_dict_get (PySem.F.args_dict_get_3 _ _ _) (meets_dict_get_default (mixKind X.prog X.w) a (kV_is ry) hd r) ⟨_, dd.mapOf, h _ _ (I.tok _) ?_⟩
    rw [l]
    exact (rel.val k).getD rd
  · subst ey
    cases (show u = Value.ref b from ry)
    obtain ⟨z, hd, xs, rel, dd⟩ := dt_rd I.hok e
    refine call_meetsIn PySem.F.slot_dict_get dd.typeIs PySem.F.entry_dict_get (PySem.F.args_dict_get_3 _ _ _) (meetsH_dict_get_default (tupleKind (mixKind X.prog X.w)) a b hd r) ⟨tupleKind_room_in1 hu, k, xs, key_of I.hok eb, dd, h _ _ (I.tok _) ?_⟩
    rw [l]
    exact (rel.val k).getD rd
end
def tDGet2 (td ty tx : TE) : TE := fun σ H Q => td σ H fun x H1 => ∃ a, x = .ref a ∧ IsD H1 a ∧ ty σ H1 fun y H2 => tx σ H2 fun z H3 => ∃ o, DGet H3 a y o ∧ Q (o.getD z) H3
section
variable {X : Cx} {o e f : Expr} {apos cpos : Pos} {td ty tx : TE}
theorem pe_dget2 (hu : X.A.units + 1 < cLine) (ho : PE X o td) (he : PE X e ty) (hf : PE X f tx) (m : M2 X o "get" apos e f cpos) : PE X (.Call (.Attribute o "get" apos) [e, f] [] cpos) (tDGet2 td ty tx) := by
  intro pins s σ H Q I h
  refine wpAny_Call_method m.base m.few m.line PySem.F.plainAttrs_dict PySem.F.slot_dict_get PySem.F.type_dict_get (thn (ho pins s σ H _ I h) fun u s1 ⟨x, H1, I1, rx, a, ex, d, q1⟩ => ?_)
  subst ex
  obtain rfl : u = Value.ref a := rx
  obtain ⟨t1, t2, _⟩ := isD_at I1 d
  refine ⟨t1, t2, ?_⟩
  rw [m.trees]
  refine Calls.callWith_builtin rfl (Calls.evalArgs_plain (Calls.spliced_cons (thn (he pins s1 σ H1 _ I1 q1) fun iv s2 ⟨y, H2, I2, ry, q2⟩ =>
    Calls.spliced_cons (thn (hf pins s2 σ H2 _ I2 q2) fun fv s3 ⟨z, H3, I3, rz, ov, g, q3⟩ => Calls.spliced_nil ?_))))
  exact d_get2 hu I3 g ry rz fun w' s4 I4 rw' => ⟨_, H3, I4, rw', q3⟩
end
section
variable {X : Cx} {pins : List (Addr × Obj)} {σ : St} {H : Hp} {s : Shared} {a : Addr} {kvs : List (Key × V)} {A : Around} {E : Value → Shared → Prop}
end
section
variable {X : Cx} {pins : List (Addr × Obj)} {σ : St} {H : Hp} {s : Shared} {a : Addr} {y : V} {u : Value} {A : Around} {E : Value → Shared → Prop}
end
end L2
namespace L2
open PySem
theorem np_rdB {σ : St} {H : Hp} {Q : Option Int → Hp → Prop} (h : Q none H) : tNoPart σ H Q := h
theorem gn_rdB {X b c : St → Hp → Prop} {r : VK} {i : Nat} {x : V} {σ : St} {H : Hp} (h : X (σ.set i (some x)) H) : gName i x σ H (Ends.nx { nx := X, rt := r, bk := b, ct := c }) := h
end L2
namespace L2
open PySem
theorem seqand_rdB {c1 c2 : TT} {t u : TS} {D : Ends} {σ : St} {H : Hp} (b1 b2 : Bool) (h1 : ∀ Q : Bool → Hp → Prop, Q b1 H → c1 σ H Q) (h2 : ∀ Q : Bool → Hp → Prop, Q b2 H → c2 σ H Q) (ht : b1 = true → b2 = true → t { D with nx := u D } σ H) (hn : ¬ (b1 = true ∧ b2 = true) → u D σ H) : tSeq (tIfS (tAnd c1 c2) t tNext) u D σ H := by
  show c1 σ H fun b H1 => if b = true then c2 σ H1 (fun b H1 => if b = true then t { D with nx := u D } σ H1 else u D σ H1) else (if false = true then t { D with nx := u D } σ H1 else u D σ H1)
  refine h1 _ ?_
  cases b1 with
  | false =>
    rw [if_neg (by decide), if_neg (by decide)]
    exact hn fun z => by cases z.1
  | true =>
    rw [if_pos rfl]
    refine h2 _ ?_
    cases b2 with
    | false =>
      rw [if_neg (by decide)]
      exact hn fun z => by cases z.2
    | true =>
      rw [if_pos rfl]
      exact ht rfl rfl
theorem cutV_mid (xs : List V) (a b : Nat) : cutV xs (some (a : Int)) (some (b : Int)) = (xs.drop a).take (b - a) := by
  unfold cutV
  rw [HT.sIx_nat, HT.sIx_nat]
  by_cases h : a ≤ xs.length
  · rw [Nat.min_eq_left h]
    by_cases h2 : b ≤ xs.length
    · rw [Nat.min_eq_left h2]
    · rw [Nat.min_eq_right (by omega), List.take_of_length_le (by rw [List.length_drop]; omega), List.take_of_length_le (by rw [List.length_drop]; omega)]
  · rw [Nat.min_eq_right (show xs.length ≤ a by omega), List.drop_of_length_le (Nat.le_refl _), List.drop_of_length_le (show xs.length ≤ a by omega), List.take_nil, List.take_nil]
theorem cutV_to (xs : List V) (b : Nat) : cutV xs none (some (b : Int)) = xs.take b := by
  unfold cutV
  rw [HT.sIx_nat, HT.sIx_none, List.drop_zero, Nat.sub_zero]
  by_cases h2 : b ≤ xs.length
  · rw [Nat.min_eq_left h2]
  · rw [Nat.min_eq_right (by omega), List.take_of_length_le (Nat.le_refl _), List.take_of_length_le (by omega)]
theorem seqand_postC {c1 c2 : TT} {t u : TS} {D : Ends} {σ : St} {H : Hp} (b1 b2 : Bool) (J : St → Hp → Prop) (h1 : ∀ Q : Bool → Hp → Prop, Q b1 H → c1 σ H Q) (h2 : ∀ Q : Bool → Hp → Prop, Q b2 H → c2 σ H Q) (ht : b1 = true → b2 = true → ∀ N : St → Hp → Prop, (∀ σ' H', J σ' H' → N σ' H') → t { D with nx := N } σ H) (hn : ¬ (b1 = true ∧ b2 = true) → J σ H) (hu : ∀ σ' H', J σ' H' → u D σ' H') : tSeq (tIfS (tAnd c1 c2) t tNext) u D σ H :=
  seqand_rdB b1 b2 h1 h2 (fun z1 z2 => ht z1 z2 _ hu) fun z => hu σ H (hn z)
end L2
namespace L2
open PySem PySem.Spec PyProof.Rows
section
variable {X : Cx} {pins : List (Addr × Obj)} {σ : St} {H : Hp} {s : Shared} {d : Addr} {o o' : HO}
theorem Inv.shift (I : Inv X pins σ H s) (e : H d = some o) (h1 : ∀ xs, o ≠ .tup xs) (h2 : ∀ y, o ≠ .own y) (h3 : ∀ ps, o ≠ .tbl ps) (hf : ∀ ob u, X.H₀ d ≠ some (.frz ob u)) (new : ObjOk X.prog X.w (upd H d o') s.heap d o') : Inv X pins σ (upd H d o') s := by
  have nn : ∀ b, H b = none → upd H d o' b = none := fun b n => by
    rw [upd_ne (show b ≠ d from fun z => by rw [z, e] at n; cases n)]
    exact n
  have nt : ∀ b xs, H b = some (.tup xs) → upd H d o' b = some (.tup xs) := fun b xs q => by
    rw [upd_ne (show b ≠ d from fun z => by rw [z, e] at q; exact h1 xs (Option.some.inj q))]
    exact q
  refine ⟨I.ok, I.os, I.bare, ⟨I.base.keep, I.base.slot, fun b ob q n x => nn b (I.base.free b ob q n x), I.base.there, fun b xs q => nt b xs (I.base.tups b xs q), fun b ob u q => ?_, fun b ps q => ?_⟩, I.loc, I.cell, nn _ I.free, fun x c z => nn c (I.freeC x c z), fun p hp => ?_, fun b u q => ?_, I.len⟩
  · rw [upd_ne (show b ≠ d from fun z => hf ob u (by rw [← z]; exact q))]
    exact I.base.frzs b ob u q
  · obtain ⟨m, r⟩ := I.base.tbls b ps q
    refine ⟨m, ?_⟩
    rw [upd_ne (show b ≠ d from fun z => by rw [z, e] at r; exact h3 _ (Option.some.inj r))]
    exact r
  · obtain ⟨a1, a2, a3⟩ := I.pin p hp
    exact ⟨a1, nn _ a2, a3⟩
  · by_cases hb : b = d
    · subst hb
      rw [upd_same] at q
      cases q
      exact new
    · rw [upd_ne hb] at q
      refine (I.hok b u q).stay (fun _ _ _ r => r) (fun c r => ?_) nt
      rw [upd_ne (show c ≠ d from fun z => by rw [z, e] at r; exact h2 _ (Option.some.inj r))]
      exact r
end
section
variable {prog : Program} {w : World} {A : Around} {E : Value → Shared → Prop} {s : Shared} {d it : Addr} {o : Obj} {es : Array DictEntry} {ep i : Nat}
theorem rawd_iter {Q : Value → Shared → Prop} (nd : (d == sysModules) = false) (e1 : s.heap.get? d = some o) (e2 : o.ExactDict) (e3 : o.data = .dict es ep)
    (q : Q (.ref s.heap.objs.size) { s with heap := s.heap.push { cls := .type "dict_keyiterator", data := .fields #[.ref d, .int 0 0, .int es.size 0, .int ep 0] } }) : wpAny (model prog w) A (pyIter (.ref d)) Q E s := by
  have tD : s.TypeIs (.ref d) "dict" := ⟨o, e1, e2.1⟩
  refine wpAny_pyIter_slot tD F.slot_dict_iter (wpAny_call_entry F.slot_dict_iter tD F.entry_dict_iter ?_ (F.args_dict_iter_1 _))
  unfold Builtin.«dict.__iter__» Builtin.Dict.dictSlotNone
  refine wpAny_bind (wpAny_bind (wpAny_notOrdered_dict tD ?_))
  refine (show wpAny _ _ (pure (Value.ref d)) _ _ s from wpAny_pure ?_)
  show wpAny _ _ (Builtin.Dict.showsAll d >>= _) _ _ s
  unfold Builtin.Dict.showsAll
  rw [if_neg (by rw [nd]; decide)]
  refine wpAny_bind (wpAny_pure (wpAny_bind (wpAny_dictEntries e1 e3 (wpAny_bind (wpAny_dictEpoch e1 e3 ?_)))))
  refine wpAny_bind (wpAny_newObj_type (wpAny_pure ⟨_, rfl, "dict_keyiterator", _, ⟨_, Heap.get?_push_size _ rfl, rfl⟩, F.slot_dict_keyiterator_next.lookup, ?_⟩))
  simpa [rawInt] using q
theorem rawd_next {en : DictEntry} {Q : Option Value → Shared → Prop} (t : s.heap.IsKeyIter it d i es.size ep) (e1 : s.heap.get? d = some o) (e3 : o.data = .dict es ep) (hx : es[i]? = some en)
    (q : ∀ h', h'.IsKeyIter it d (i + 1) es.size ep → Heap.SameBut it s.heap h' → Q (some en.key) { s with heap := h' }) : wpAny (model prog w) A (pyNext (.ref it)) Q E s := by
  obtain ⟨oi, i1, i2, i3⟩ := id t
  have tI := t.typeIs
  unfold pyNext
  refine wpAny_bind (wpAny_attempt (wpAny_callSpecial?_slot (name := Str.ofString "__next__") tI F.slot_dict_keyiterator_next (wpAny_call_entry F.slot_dict_keyiterator_next tI F.entry_dict_keyiterator_next ?_ (F.args_dict_keyiterator_next_1 _))))
  refine wpAny_bind (wpAny_pure (wpAny_bind (wpAny_bind ?_)))
  first | refine wpAny_bind (wpAny_typeNameOfWhole_keyiter tI (wpAny_pure ?_)) | refine wpAny_bind (wpAny_typeNameOf_keyiter tI (wpAny_pure ?_))
  refine wpAny_bind (wpAny_fieldsOf i1 i3 ?_)
  simp only [show Builtin.Dict_items.ownsTuple "dict_keyiterator" = false by decide, Bool.false_eq_true, if_false]
  show wpAny _ _ (if (Value.ref d == Value.none) = true then _ else _) _ _ s
  rw [if_neg (show ¬ ((Value.ref d == Value.none) = true) from fun z => nomatch z)]
  refine wpAny_bind (wpAny_pure (wpAny_bind (wpAny_dictEntries e1 e3 ?_)))
  rw [if_neg (by simp)]
  refine wpAny_bind (wpAny_pure (wpAny_bind (wpAny_dictEpoch e1 e3 ?_)))
  rw [if_neg (by simp)]
  refine wpAny_pure ?_
  simp only [show ¬ ((i : Int) < 0) by omega, if_false, Int.toNat_natCast, hx]
  refine wpAny_bind ?_
  first | refine wpAny_bind (wpAny_typeNameOfWhole_keyiter tI (wpAny_pure ?_)) | refine wpAny_bind (wpAny_typeNameOf_keyiter tI (wpAny_pure ?_))
  refine wpAny_bind (wpAny_isOneOf_keyiter tI ?_)
  refine (show wpAny _ _ (setField (.ref it) 1 (rawInt ((i : Int) + 1)) >>= _) _ _ s from wpAny_bind (wpAny_setField i1 i3 (by simp) ?_))
  have t' : (s.heap.update it (Obj.mapFields (·.setIfInBounds 1 (rawInt ((i : Int) + 1))))).IsKeyIter it d (i + 1) es.size ep :=
    ⟨_, Heap.get?_update_self _ i1 (Obj.isFreed_of_fields (Obj.data_mapFields i3 _)), (Obj.cls_mapFields ..).trans i2, by rw [Obj.data_mapFields i3]; simp [rawInt]⟩
  refine wpAny_bind (wpAny_holding (wpAny_bind (wpAny_isOneOf_keyiter (s := { s with heap := s.heap.update it (Obj.mapFields (·.setIfInBounds 1 (rawInt ((i : Int) + 1)))) }) t'.typeIs ?_)))
  refine (show wpAny _ _ (pure en.key) _ _ _ from wpAny_pure (wpAny_pure ⟨_, rfl, wpAny_pure (q _ t' (Heap.SameBut.update ..))⟩))
theorem rawd_end {Q : Option Value → Shared → Prop} (hh : A.handled = none) (t : s.heap.IsKeyIter it d i es.size ep) (e1 : s.heap.get? d = some o) (e3 : o.data = .dict es ep) (hx : es.size ≤ i)
    (q : ∀ h', Heap.ExtBut it s.heap h' → Q none { s with heap := h' }) : wpAny (model prog w) A (pyNext (.ref it)) Q E s := by
  obtain ⟨oi, i1, i2, i3⟩ := id t
  have tI := t.typeIs
  unfold pyNext
  refine wpAny_bind (wpAny_attempt (wpAny_callSpecial?_slot (name := Str.ofString "__next__") tI F.slot_dict_keyiterator_next (wpAny_call_entry F.slot_dict_keyiterator_next tI F.entry_dict_keyiterator_next ?_ (F.args_dict_keyiterator_next_1 _))))
  refine wpAny_bind (wpAny_pure (wpAny_bind (wpAny_bind ?_)))
  first | refine wpAny_bind (wpAny_typeNameOfWhole_keyiter tI (wpAny_pure ?_)) | refine wpAny_bind (wpAny_typeNameOf_keyiter tI (wpAny_pure ?_))
  refine wpAny_bind (wpAny_fieldsOf i1 i3 ?_)
  simp only [show Builtin.Dict_items.ownsTuple "dict_keyiterator" = false by decide, Bool.false_eq_true, if_false]
  show wpAny _ _ (if (Value.ref d == Value.none) = true then _ else _) _ _ s
  rw [if_neg (show ¬ ((Value.ref d == Value.none) = true) from fun z => nomatch z)]
  refine wpAny_bind (wpAny_pure (wpAny_bind (wpAny_dictEntries e1 e3 ?_)))
  rw [if_neg (by simp)]
  refine wpAny_bind (wpAny_pure (wpAny_bind (wpAny_dictEpoch e1 e3 ?_)))
  rw [if_neg (by simp)]
  refine wpAny_pure ?_
  simp only [show ¬ ((i : Int) < 0) by omega, if_false, Int.toNat_natCast, Array.getElem?_eq_none hx]
  refine wpAny_bind ?_
  first | refine wpAny_bind (wpAny_typeNameOfWhole_keyiter tI (wpAny_pure ?_)) | refine wpAny_bind (wpAny_typeNameOf_keyiter tI (wpAny_pure ?_))
  refine (show wpAny _ _ (setField (.ref it) 0 .none >>= _) _ _ s from wpAny_bind (wpAny_setField i1 i3 (by simp) ?_))
  refine (show wpAny _ _ (newExc (.type "StopIteration") [] >>= _) _ _ _ from wpAny_bind ?_)
  simp only [newExc, newTuple]
  refine wpAny_bind (wpAny_newObj_type ?_ (by size_fits))
  refine wpAny_bind (m := firstArgMember _ _) (wpAny_of_eq (a := Value.none) (by first | rfl | (simp only [firstArgMember]; rfl)) (wpAny_newObj_type ?_ (by size_fits)))
  simp only [raiseNew]
  refine wpAny_bind (wpAny_handled ?_)
  rw [show A.in1.handled = none from hh]
  refine wpAny_bind (wpAny_pure (wpAny_throw ?_))
  refine wpAny_bind (wpAny_isInstance (T := "StopIteration") (b := true) ⟨_, Heap.get?_push_size _ rfl, by rfl⟩ isSubtype_stop ?_)
  exact wpAny_pure (q _ (((Heap.SameBut.update ..).extBut.push _).push _))
end
def ItD (d : Addr) (ob : Obj) (kvs : List (List Key × V)) : It :=
  ⟨fun i H => H d = some (.frz ob (.dT kvs)) ∧ i < kvs.length,
   fun i H v H' => H' = H ∧ ∃ k x b, kvs[i]? = some (k, x) ∧ v = .ref b ∧ H b = some (.tup (k.map kV)),
   fun i H => H d = some (.frz ob (.dT kvs)) ∧ kvs.length ≤ i⟩
theorem paired_to {α β : Type} {F : α → β → Prop} : ∀ {l₁ : List α} {l₂ : List β} {i : Nat} {a : α}, Paired F l₁ l₂ → l₁[i]? = some a → ∃ b, l₂[i]? = some b ∧ F a b
  | _, _, _, _, .nil, e => by simp at e
  | _, _, 0, _, .cons h _, e => by simp at e; subst e; exact ⟨_, rfl, h⟩
  | _, _, i + 1, a, .cons _ t, e => by
    simp only [List.getElem?_cons_succ] at e
    obtain ⟨b, e', q⟩ := paired_to t e
    exact ⟨b, by simpa using e', q⟩
theorem turn_dict {P : Program} {w : World} {K : PySem.W.Frag} {tg : Expr} {d it : Addr} {ob : Obj} {es : Array DictEntry} {ep : Nat} {kvs : List (List Key × V)} (hd : ob.data = .dict es ep) (hz : es.size = kvs.length) :
    Turn P w K tg (ItD d ob kvs) [it] it (fun i h => h.IsKeyIter it d i es.size ep) where
  mem := by simp
  obj := fun i h st b hb => by
    have e : b = it := by simpa using hb
    subst e
    obtain ⟨o, e, c, d⟩ := st
    exact ⟨o, e, fun v z => by rw [d] at z; cases z⟩
  keep := fun i h h' st k => st.at fun o e => k it (by simp) o e
  item := by
    intro X hP hw hK hc i pins s σ H E I hf st hg
    subst hP hw hK
    obtain ⟨e, hi⟩ := hg
    obtain ⟨f0, f1, f2, f3, f4, f5⟩ := hf it (by simp)
    obtain ⟨e1, z1, z2, xs, r, o2, es2, ep2, a1, a2, a3, a4, a5⟩ := (show ObjOk X.prog X.w H s.heap d (.frz ob (.dT kvs)) from I.hok d _ e)
    rw [e1] at a1
    cases a1
    rw [hd] at a3
    cases a3
    obtain ⟨⟨k, x⟩, ek⟩ : ∃ p, kvs[i]? = some p := ⟨kvs[i], by simp [hi]⟩
    obtain ⟨⟨k2, b, u⟩, ex, hk, hb, hr⟩ := paired_to r ek
    have een : es[i]? = some (entryOfKey (tupleKind (mixKind X.prog X.w)) (k2, b, u)) := by rw [entry_at a4, ex] <;> rfl
    refine rawd_next st e1 hd een fun h' st' sb => ?_
    have I1 : Inv X pins σ H { s with heap := h' } := I.turned (t' := s.toks) (fun b o hb e => (sb.2 b hb).trans e) f0 f1 f3 f4 f5
    obtain ⟨o, e, c, d⟩ := id st'
    exact ⟨.ref b, rfl, go_of (s := { s with heap := h' }) e c d (by decide) ⟨.ref b, H, I1, rfl, ⟨rfl, k, x, b, ek, rfl, hb⟩, st', fun b hb => (hf b hb).1⟩⟩
  done := by
    intro X hP hw hK hc i pins s σ H E I hf st hg
    subst hP hw hK
    obtain ⟨e, hi⟩ := hg
    obtain ⟨f0, f1, f2, f3, f4, f5⟩ := hf it (by simp)
    obtain ⟨e1, _⟩ := (show ObjOk X.prog X.w H s.heap d (.frz ob (.dT kvs)) from I.hok d _ e)
    exact rawd_end (I.ok.hd hc) st e1 hd (by omega) fun h' eb => ⟨rfl, I.turned (t' := s.toks) (fun b o hb e => eb b o hb e) f0 f1 f3 f4 f5⟩
  self := fun _ _ _ _ _ st h => wpAny_pyIter_keyiter st h
section
variable {X : Cx} {tg : Expr}
def thawE (Ok : Addr → Prop) (D : Ends) : Ends where
  nx := fun σ H => ∃ d ob kvs, Ok d ∧ H d = some (.frz ob (.dT kvs)) ∧ D.nx σ (upd H d (.dT kvs))
  rt := fun v H => ∃ d ob kvs, Ok d ∧ H d = some (.frz ob (.dT kvs)) ∧ D.rt v (upd H d (.dT kvs))
  bk := fun σ H => ∃ d ob kvs, Ok d ∧ H d = some (.frz ob (.dT kvs)) ∧ D.bk σ (upd H d (.dT kvs))
  ct := fun σ H => ∃ d ob kvs, Ok d ∧ H d = some (.frz ob (.dT kvs)) ∧ D.ct σ (upd H d (.dT kvs))
def iDict (Ok : Addr → Prop) (td : TE) : TI := fun σ H R => td σ H fun x H1 => ∃ d kvs, x = .ref d ∧ H1 d = some (.dT kvs) ∧ ∀ ob, Ok d → R (ItD d ob kvs) (upd H1 d (.frz ob (.dT kvs)))
def tForD (td : TE) (g : TG) (tb : TS) : TS := fun D σ H => ∀ Ok : Addr → Prop, tFor (iDict Ok td) g tb (thawE Ok D) σ H
theorem dT_frz {P : Program} {w : World} {H : Hp} {h : Heap} {d : Addr} {ob : Obj} {kvs : List (List Key × V)} (e : H d = some (.dT kvs)) (k : ObjOk P w H h d (.dT kvs)) (e1 : h.get? d = some ob) : ObjOk P w (upd H d (.frz ob (.dT kvs))) h d (.frz ob (.dT kvs)) := by
  refine ⟨e1, k.stay (fun _ _ _ r => r) (fun c r => ?_) fun c xs r => ?_⟩
  · rw [upd_ne (ne_of r e (fun z => nomatch z))]; exact r
  · rw [upd_ne (ne_of r e (fun z => nomatch z))]; exact r
theorem frz_dT {P : Program} {w : World} {H : Hp} {h : Heap} {d : Addr} {ob : Obj} {kvs : List (List Key × V)} (e : H d = some (.frz ob (.dT kvs))) (k : ObjOk P w H h d (.frz ob (.dT kvs))) : ObjOk P w (upd H d (.dT kvs)) h d (.dT kvs) := by
  obtain ⟨_, k⟩ := k
  refine (show ObjOk P w H h d (.dT kvs) from k).stay (fun _ _ _ r => r) (fun c r => ?_) fun c xs r => ?_
  · rw [upd_ne (ne_of r e (fun z => nomatch z))]; exact r
  · rw [upd_ne (ne_of r e (fun z => nomatch z))]; exact r
def NotFrz (X : Cx) (d : Addr) : Prop := ∀ ob u, X.H₀ d ≠ some (.frz ob u)
theorem Inv.thaw {pins : List (Addr × Obj)} {σ : St} {H : Hp} {s : Shared} {d : Addr} {ob : Obj} {kvs : List (List Key × V)} (I : Inv X pins σ H s) (n : NotFrz X d) (e : H d = some (.frz ob (.dT kvs))) : Inv X pins σ (upd H d (.dT kvs)) s :=
  I.shift e (fun _ z => nomatch z) (fun _ z => nomatch z) (fun _ z => nomatch z) n (frz_dT e (I.hok d _ e))
theorem pi_dict {l : Expr} {tl : TE} (hl : PE X l tl) : PI X tg l (iDict (NotFrz X) tl) := by
  intro pins s σ H R I h
  refine thn (hl pins s σ H _ I h) fun v s1 ⟨x, H1, I1, r1, q1⟩ => ?_
  obtain ⟨d, kvs, e, hd, q⟩ := q1
  subst e
  cases r1
  have k := I1.hok d _ hd
  obtain ⟨z1, z2, xs, r, ob, es, ep, a1, a2, a3, a4, a5⟩ := id k
  have hz : es.size = kvs.length := by rw [size_of_entries a4, Paired.length r]
  have nf : NotFrz X d := fun o u z => by
    have := I1.base.frzs d o u z
    rw [hd] at this
    cases this
  have I2 := I1.shift hd (fun _ z => nomatch z) (fun _ z => nomatch z) (fun _ z => nomatch z) nf (dT_frz hd k a1)
  refine rawd_iter z2 a1 a2 a3 ?_
  refine ⟨s1.heap.objs.size, [s1.heap.objs.size], _, _, _, rfl, I2.kept (t' := s1.toks) fun b o e => Heap.get?_push_of_some _ e, turn_dict a3 hz, ⟨_, Heap.get?_push_size _ rfl, rfl, rfl⟩, fun b hb => ?_, q ob nf⟩
  have e : b = s1.heap.objs.size := by simpa using hb
  subst e
  exact I2.fpOk (Nat.le_refl _) (I2.hok.fresh (Nat.le_refl _))
theorem ps_forD {iter : Expr} {body : List Stmt} {td : TE} {g : TG} {tb : TS} {pos : Pos} (hp : PassesOwn (model X.prog X.w) X.A X.env X.xe) (hc : X.calm = true) (hi : PE X iter td) (hg : PG X tg g) (hb : PSs X body tb)
    (hs : ∀ x, foldedSetIterable iter X.env x = pure x := by intro _; rfl) : PS X (.For tg iter body [] pos) (tForD td g tb) := by
  intro pins s σ H D I h
  refine thn (ps_for hp hc (pi_dict hi) hg hb hs pins s σ H _ I (h (NotFrz X))) fun f s' q => ?_
  cases f with
  | next => obtain ⟨σ', H', I', d, ob, kvs, n, e, q⟩ := q; exact ⟨σ', _, I'.thaw n e, q⟩
  | brk => obtain ⟨σ', H', I', d, ob, kvs, n, e, q⟩ := q; exact ⟨σ', _, I'.thaw n e, q⟩
  | cont => obtain ⟨σ', H', I', d, ob, kvs, n, e, q⟩ := q; exact ⟨σ', _, I'.thaw n e, q⟩
  | ret v => obtain ⟨x', σ', H', I', r, d, ob, kvs, n, e, q⟩ := q; exact ⟨x', σ', _, I'.thaw n e, r, q⟩
end
theorem for_dict {d : Addr} {ob : Obj} {kvs : List (List Key × V)} {g : TG} {tb : TS} {D : Ends} {σ : St} {H : Hp} (Pv : Nat → St → Hp → Prop) (h0 : Pv 0 σ H) (hl : ∀ i σ H, i ≤ kvs.length → Pv i σ H → H d = some (.frz ob (.dT kvs)))
    (hs : ∀ i k x b σ H, kvs[i]? = some (k, x) → H b = some (.tup (k.map kV)) → Pv i σ H → g (.ref b) σ H fun σ2 H2 => tb { D with nx := Pv (i + 1), ct := Pv (i + 1), bk := D.nx } σ2 H2) (hd : ∀ σ H, Pv kvs.length σ H → D.nx σ H) :
    ∃ W : Nat → Nat → St → Hp → Prop, (∃ m, W 0 m σ H) ∧ ∀ i m σ H, W i m σ H →
      ((ItD d ob kvs).stop i H ∧ D.nx σ H) ∨ ((ItD d ob kvs).go i H ∧ ∃ N : St → Hp → Prop, (∀ σ' H', N σ' H' → ∃ m', m' < m ∧ W (i + 1) m' σ' H') ∧ ∀ x H', (ItD d ob kvs).yld i H x H' → g x σ H' fun σ2 H2 => tb { D with nx := N, ct := N, bk := D.nx } σ2 H2) := by
  refine ⟨fun i m σ H => m = kvs.length - i ∧ i ≤ kvs.length ∧ Pv i σ H, ⟨kvs.length, by simp, Nat.zero_le _, h0⟩, ?_⟩
  rintro i m σ H ⟨rfl, hi, p⟩
  have q := hl i σ H hi p
  by_cases hlt : i < kvs.length
  · refine .inr ⟨⟨q, hlt⟩, Pv (i + 1), fun σ' H' p' => ⟨kvs.length - (i + 1), by omega, rfl, hlt, p'⟩, ?_⟩
    rintro v H' ⟨rfl, k, x, b, ek, rfl, hb⟩
    exact hs i k x b σ _ ek hb p
  · have e : i = kvs.length := by omega
    subst e
    exact .inl ⟨⟨q, Nat.le_refl _⟩, hd σ H p⟩
theorem same_thaw {H H' : Hp} {d : Addr} {o u : HO} (e : H d = some u) (g : Same (upd H d o) H') : Same H (upd H' d u) := fun b v q => by
  by_cases hb : b = d
  · subst hb
    rw [e] at q
    cases q
    exact upd_same
  · rw [upd_ne hb]
    exact g b v (by rw [upd_ne hb]; exact q)
end L2
namespace L2
open PySem PySem.Spec PyProof.Rows
def isT (z : Str) : Value → Bool
  | .str y _ => y == z
  | _ => false
section
variable {X : Cx}
theorem mt_lindex : MtR X "list.index" (fun x vs H Q => ∃ (a : Addr) (zs : List Str) (z : Str) (j : Nat), x = .ref a ∧ vs = [.str z] ∧ H a = some (.lst (zs.map V.str)) ∧ zs[j]? = some z ∧ (∀ m, m < j → zs[m]? ≠ some z) ∧ Q (.int j) H) := by
  intro pins s σ H x vs v us Q I rx rv h
  obtain ⟨a, zs, z, j, rfl, rfl, hH, hj, hno, q⟩ := h
  cases rx
  obtain ⟨u, rfl, ru⟩ := vals1 rv
  obtain ⟨t', rfl⟩ := ru
  obtain ⟨hz, its, n, r, hl, e⟩ := I.lstM hH
  have hb : sizeLine < 2 ^ 63 - 1 := by decide
  rw [List.length_map] at hz hl
  have sz : its.toArray.size = zs.length := by rw [List.size_toArray]; exact hl.symm
  have key : ∀ m (hm : m < its.toArray.size), ∃ y t, its.toArray[m] = .str y t ∧ zs[m]? = some y := fun m hm => by
    have hm2 : m < zs.length := by omega
    obtain ⟨u, hu, ru⟩ := r.get (i := m) (x := .str zs[m]) (by rw [List.getElem?_map, List.getElem?_eq_getElem hm2] <;> rfl)
    obtain ⟨t, rfl⟩ := ru
    refine ⟨zs[m], t, ?_, List.getElem?_eq_getElem hm2⟩
    rw [List.getElem?_eq_getElem (by rw [← hl]; exact hm2)] at hu
    simpa using Option.some.inj hu
  have hj1 : j < zs.length := (List.getElem?_eq_some_iff.mp hj).1
  have hit : isT z its.toArray[j] = true := by
    obtain ⟨y, t, e1, e2⟩ := key j (by omega)
    rw [e1]
    rw [hj] at e2
    cases e2
    exact beq_self_eq_true _
  have hnot : ∀ m (hm : m < its.toArray.size), m < j → isT z its.toArray[m] = false := fun m hm lt => by
    obtain ⟨y, t, e1, e2⟩ := key m hm
    rw [e1]
    refine beq_eq_false_iff_ne.mpr fun e3 => hno m lt ?_
    rw [e2, e3]
  refine call_meets F.slot_list_index ⟨_, e, rfl⟩ F.entry_list_index (F.args_list_index_2 _ _) (SeqAt.list_indexAt a its.toArray n none #[] (.str z t') (isT z) j (by omega) (by omega) hit hnot) ⟨e, fun y hy => ?_, ⟨.int j, H, I.tok _, ⟨_, rfl⟩, q⟩⟩
  obtain ⟨m, hm, rfl⟩ := Array.mem_iff_getElem.mp hy
  obtain ⟨y, t, e1, e2⟩ := key m hm
  rw [e1]
  exact SeqAt.EqAt.str_str y t z t'
end
end L2
namespace L2
open PySem
theorem if_tt {c : TT} {t u : TS} {D : Ends} {σ : St} {H : Hp} (b : Bool) (hc : ∀ Q : Bool → Hp → Prop, Q b H → c σ H Q) (ht : b = true → t D σ H) (hu : b = false → u D σ H) : tIfS c t u D σ H := by
  show c σ H fun b H1 => if b = true then t D σ H1 else u D σ H1
  refine hc _ ?_
  cases b with
  | true => rw [if_pos rfl]; exact ht rfl
  | false => rw [if_neg (by decide)]; exact hu rfl
theorem and_tt {c1 c2 : TT} {σ : St} {H : Hp} (b1 b2 : Bool) (h1 : ∀ Q : Bool → Hp → Prop, Q b1 H → c1 σ H Q) (h2 : b1 = true → ∀ Q : Bool → Hp → Prop, Q b2 H → c2 σ H Q) : ∀ Q : Bool → Hp → Prop, Q (b1 && b2) H → tAnd c1 c2 σ H Q := by
  intro Q q
  show c1 σ H fun c H1 => if c = true then c2 σ H1 Q else Q false H1
  refine h1 _ ?_
  cases b1 with
  | true => rw [if_pos rfl]; exact h2 rfl _ q
  | false => rw [if_neg (by decide)]; exact q
theorem or_tt {c1 c2 : TT} {σ : St} {H : Hp} (b1 b2 : Bool) (h1 : ∀ Q : Bool → Hp → Prop, Q b1 H → c1 σ H Q) (h2 : b1 = false → ∀ Q : Bool → Hp → Prop, Q b2 H → c2 σ H Q) : ∀ Q : Bool → Hp → Prop, Q (b1 || b2) H → tOr c1 c2 σ H Q := by
  intro Q q
  show c1 σ H fun c H1 => if c = true then Q true H1 else c2 σ H1 Q
  refine h1 _ ?_
  cases b1 with
  | true => rw [if_pos rfl]; exact q
  | false => rw [if_neg (by decide)]; exact h2 rfl _ q
theorem if_sm {c : TT} {t u : TS} {D : Ends} {σ : St} {H : Hp} (b : Bool) (hc : ∀ Q : Bool → Hp → Prop, (∀ H', Same H H' → Q b H') → c σ H Q) (ht : b = true → ∀ H', Same H H' → t D σ H') (hu : b = false → ∀ H', Same H H' → u D σ H') : tIfS c t u D σ H := by
  show c σ H fun b H1 => if b = true then t D σ H1 else u D σ H1
  refine hc _ fun H' g => ?_
  cases b with
  | true => rw [if_pos rfl]; exact ht rfl H' g
  | false => rw [if_neg (by decide)]; exact hu rfl H' g
theorem seqif_sm {c : TT} {t u : TS} {D : Ends} {σ : St} {H : Hp} (b : Bool) (hc : ∀ Q : Bool → Hp → Prop, (∀ H', Same H H' → Q b H') → c σ H Q) (ht : b = true → ∀ H', Same H H' → t { D with nx := u D } σ H') (hu : b = false → ∀ H', Same H H' → u D σ H') : tSeq (tIfS c t tNext) u D σ H :=
  if_sm (t := t) (u := tNext) (D := { D with nx := u D }) b hc ht hu
theorem and_sm {c1 c2 : TT} {σ : St} {H : Hp} (b1 b2 : Bool) (h1 : ∀ Q : Bool → Hp → Prop, (∀ H', Same H H' → Q b1 H') → c1 σ H Q) (h2 : b1 = true → ∀ H1, Same H H1 → ∀ Q : Bool → Hp → Prop, (∀ H', Same H1 H' → Q b2 H') → c2 σ H1 Q) : ∀ Q : Bool → Hp → Prop, (∀ H', Same H H' → Q (b1 && b2) H') → tAnd c1 c2 σ H Q := by
  intro Q q
  show c1 σ H fun c H1 => if c = true then c2 σ H1 Q else Q false H1
  refine h1 _ fun H1 g1 => ?_
  cases b1 with
  | true => rw [if_pos rfl]; exact h2 rfl H1 g1 _ fun H' g => q H' (g1.trans g)
  | false => rw [if_neg (by decide)]; exact q H1 g1
theorem or_sm {c1 c2 : TT} {σ : St} {H : Hp} (b1 b2 : Bool) (h1 : ∀ Q : Bool → Hp → Prop, (∀ H', Same H H' → Q b1 H') → c1 σ H Q) (h2 : b1 = false → ∀ H1, Same H H1 → ∀ Q : Bool → Hp → Prop, (∀ H', Same H1 H' → Q b2 H') → c2 σ H1 Q) : ∀ Q : Bool → Hp → Prop, (∀ H', Same H H' → Q (b1 || b2) H') → tOr c1 c2 σ H Q := by
  intro Q q
  show c1 σ H fun c H1 => if c = true then Q true H1 else c2 σ H1 Q
  refine h1 _ fun H1 g1 => ?_
  cases b1 with
  | true => rw [if_pos rfl]; exact q H1 g1
  | false => rw [if_neg (by decide)]; exact h2 rfl H1 g1 _ fun H' g => q H' (g1.trans g)
theorem not_sm {c : TT} {σ : St} {H : Hp} (b : Bool) (h : ∀ Q : Bool → Hp → Prop, (∀ H', Same H H' → Q b H') → c σ H Q) : ∀ Q : Bool → Hp → Prop, (∀ H', Same H H' → Q (!b) H') → tNot c σ H Q := fun Q q => h _ fun H' g => q H' g
end L2
namespace L2
open PySem PySem.Spec PyProof.Rows
section
variable {X : Cx}
theorem call_sorted : CallR X (.builtin "sorted") (fun xs H Q => ∃ (p : Addr) (ns : List Int), xs = [.ref p] ∧ SqL X.K H p (ns.map V.int) ∧ ns.length < 64 ∧ ∀ (l : Addr) (ns' : List Int), H l = none → ns'.Perm ns → ns'.Pairwise (· ≤ ·) → Q (.ref l) (upd H l (.lst (ns'.map V.int)))) := by
  intro pins s σ H xs us Q I r h
  obtain ⟨p, ns, rfl, hq, h64, q⟩ := h
  obtain ⟨u, rfl, rx⟩ := vals1 r
  cases rx
  obtain ⟨its, r', pl, hz⟩ := I.list hq
  have hlen := r'.length
  rw [List.length_map] at hlen hz
  refine sorted_ints pl.isList (intsAre_of r') (by omega) fun out ns' a1 a2 a3 => ?_
  obtain ⟨c, he⟩ := sortedAll_at s.heap its out
  have hl := a2.length_eq
  exact ⟨.ref (s.heap.objs.size + 1), _, I.laid (t' := s.toks) (fun _ _ e => sortedAll_old e) (Nat.le_succ _) (show ObjOk X.prog X.w _ _ _ (.lst (ns'.map V.int)) from ⟨by rw [List.length_map]; omega, out.toList, c, vals_ints a1, by simpa using he⟩), rfl, q _ ns' (I.hok.fresh (Nat.le_succ _)) a2 a3⟩
end
end L2
namespace L2
open PySem PySem.Spec PyProof.Rows
section
variable {prog : Program} {w : World} {A : Around} {E : Value → Shared → Prop} {s : Shared} {d : Addr} {o : Obj} {es : Array DictEntry} {ep : Nat}
end
section
variable {X : Cx}
end
end L2
namespace L2
open PySem
theorem nd_idx {α : Type} : ∀ {l : List α} {i j : Nat} {a : α}, l.Nodup → l[i]? = some a → l[j]? = some a → i = j
  | [], _, _, _, _, h, _ => by simp at h
  | x :: r, 0, 0, _, _, _, _ => rfl
  | x :: r, 0, j + 1, a, nd, h1, h2 => by
    have e : x = a := by simpa using h1
    have m : a ∈ r := List.mem_of_getElem? (i := j) (by simpa using h2)
    rw [← e] at m
    exact absurd m (List.nodup_cons.mp nd).1
  | x :: r, i + 1, 0, a, nd, h1, h2 => by
    have e : x = a := by simpa using h2
    have m : a ∈ r := List.mem_of_getElem? (i := i) (by simpa using h1)
    rw [← e] at m
    exact absurd m (List.nodup_cons.mp nd).1
  | x :: r, i + 1, j + 1, a, nd, h1, h2 => by
    rw [nd_idx (List.nodup_cons.mp nd).2 (i := i) (j := j) (a := a) (by simpa using h1) (by simpa using h2)]
theorem idx_snoc {α : Type} {l : List α} {x p : α} {i : Nat} (h : (l ++ [x])[i]? = some p) : l[i]? = some p ∨ (i = l.length ∧ p = x) := by
  by_cases lt : i < l.length
  · rw [List.getElem?_append_left lt] at h
    exact .inl h
  · rw [List.getElem?_append_right (by omega)] at h
    have z : i - l.length = 0 := by
      cases e : i - l.length with
      | zero => rfl
      | succ n => rw [e] at h; simp at h
    rw [z] at h
    exact .inr ⟨by omega, by simpa using h.symm⟩
theorem snoc_idx {α : Type} {l : List α} {x p : α} {i : Nat} (h : l[i]? = some p) : (l ++ [x])[i]? = some p := by
  obtain ⟨lt, _⟩ := List.getElem?_eq_some_iff.mp h
  rw [List.getElem?_append_left lt]
  exact h
theorem idx_set {α : Type} {l : List α} {s i : Nat} {k k' : α} (h : (l.set s k)[i]? = some k') : (i = s ∧ k' = k) ∨ (i ≠ s ∧ l[i]? = some k') := by
  rw [List.getElem?_set] at h
  by_cases e : s = i
  · rw [if_pos e] at h
    split at h
    · exact .inl ⟨e.symm, by simpa using h.symm⟩
    · cases h
  · rw [if_neg e] at h
    exact .inr ⟨fun z => e z.symm, h⟩
abbrev Trie := List (List (Key × V))
structure TrI (T : Trie) (ps : List (List Str)) : Prop where
  len : T.length = ps.length
  zero : ps[0]? = some []
  nd : ps.Nodup
  yes : ∀ {s : Nat} {kvs : List (Key × V)} {p : List Str} {w : Str} {v : V}, T[s]? = some kvs → ps[s]? = some p → valV kvs (.inr w) = some v → ∃ n : Nat, v = .int n ∧ ps[n]? = some (p ++ [w])
  no : ∀ {s : Nat} {kvs : List (Key × V)} {p : List Str} {w : Str}, T[s]? = some kvs → ps[s]? = some p → valV kvs (.inr w) = none → p ++ [w] ∉ ps
  pre : ∀ {p : List Str} {w : Str}, p ++ [w] ∈ ps → p ∈ ps
  sz : ∀ kvs ∈ T, kvs.length ≤ T.length
theorem TrI.new : TrI [[]] [[]] := by
  have one : ∀ {s : Nat} {kvs : List (Key × V)}, ([[]] : Trie)[s]? = some kvs → kvs = [] := fun {s kvs} h => by
    have m := List.mem_of_getElem? h
    simpa using m
  refine ⟨rfl, rfl, by simp, fun h _ hv => ?_, fun _ _ _ hm => ?_, fun hm => ?_, fun kvs hk => ?_⟩
  · rw [one h] at hv
    cases hv
  · have := List.mem_singleton.mp hm
    simp at this
  · have := List.mem_singleton.mp hm
    simp at this
  · rw [List.mem_singleton.mp hk]
    exact Nat.zero_le _
theorem TrI.pos {T : Trie} {ps : List (List Str)} (h : TrI T ps) : 0 < ps.length := (List.getElem?_eq_some_iff.mp h.zero).1
theorem snoc_inj {p q : List Str} {u w : Str} (e : p ++ [u] = q ++ [w]) : p = q ∧ u = w := by
  have := List.append_inj' e rfl
  exact ⟨this.1, by simpa using this.2⟩
theorem TrI.add {T : Trie} {ps : List (List Str)} {s : Nat} {kvs : List (Key × V)} {p : List Str} {w : Str} (h : TrI T ps) (hs : T[s]? = some kvs) (hp : ps[s]? = some p) (hn : valV kvs (.inr w) = none) :
    TrI (T.set s (putK kvs (.inr w) (.int T.length)) ++ [[]]) (ps ++ [p ++ [w]]) := by
  have nw := h.no hs hp hn
  have idx : ∀ {i : Nat} {k' : List (Key × V)} {p' : List Str}, (T.set s (putK kvs (.inr w) (.int T.length)) ++ [[]])[i]? = some k' → (ps ++ [p ++ [w]])[i]? = some p' →
      (i = s ∧ k' = putK kvs (.inr w) (.int T.length) ∧ p' = p) ∨ (i ≠ s ∧ T[i]? = some k' ∧ ps[i]? = some p') ∨ (k' = [] ∧ p' = p ++ [w]) := by
    intro i k' p' h1 h2
    rcases idx_snoc h1 with a | ⟨a, b⟩
    · rcases idx_snoc h2 with c | ⟨c, d⟩
      · rcases idx_set a with ⟨e, f⟩ | ⟨e, f⟩
        · subst e
          rw [hp] at c
          exact .inl ⟨rfl, f, (Option.some.inj c).symm⟩
        · exact .inr (.inl ⟨e, f, c⟩)
      · have := (List.getElem?_eq_some_iff.mp a).1
        rw [List.length_set, h.len] at this
        omega
    · rw [List.length_set, h.len] at a
      rcases idx_snoc h2 with c | ⟨c, d⟩
      · have := (List.getElem?_eq_some_iff.mp c).1
        omega
      · exact .inr (.inr ⟨b, d⟩)
  refine ⟨?_, snoc_idx h.zero, ?_, fun h1 h2 hv => ?_, fun h1 h2 hv => ?_, fun hm => ?_, fun k hk => ?_⟩
  · simp [h.len]
  · rw [List.nodup_append]
    refine ⟨h.nd, by simp, fun a ha b hb => ?_⟩
    rw [List.mem_singleton.mp hb]
    intro e
    exact nw (e ▸ ha)
  · rcases idx h1 h2 with ⟨_, e, e2⟩ | ⟨_, a, b⟩ | ⟨e, _⟩
    · subst e e2
      rw [valV_put] at hv
      split at hv
      · rename_i e
        cases e
        cases hv
        refine ⟨T.length, rfl, ?_⟩
        rw [h.len]
        simp
      · obtain ⟨n, e, q⟩ := h.yes hs hp hv
        exact ⟨n, e, snoc_idx q⟩
    · obtain ⟨n, e, q⟩ := h.yes a b hv
      exact ⟨n, e, snoc_idx q⟩
    · subst e
      cases hv
  · intro hm
    rcases idx h1 h2 with ⟨_, e, e2⟩ | ⟨ne, a, b⟩ | ⟨_, e⟩
    · subst e e2
      rw [valV_put] at hv
      split at hv
      · cases hv
      · rename_i ne
        rcases List.mem_append.mp hm with m | m
        · exact h.no hs hp hv m
        · exact ne (by rw [(snoc_inj (List.mem_singleton.mp m)).2])
    · rcases List.mem_append.mp hm with m | m
      · exact h.no a b hv m
      · have e := (snoc_inj (List.mem_singleton.mp m)).1
        subst e
        exact ne (nd_idx h.nd b hp)
    · subst e
      rcases List.mem_append.mp hm with m | m
      · exact nw (h.pre m)
      · have := congrArg List.length (List.mem_singleton.mp m)
        simp at this
  · rcases List.mem_append.mp hm with m | m
    · exact List.mem_append.mpr (.inl (h.pre m))
    · rw [(snoc_inj (List.mem_singleton.mp m)).1]
      exact List.mem_append.mpr (.inl (List.mem_of_getElem? hp))
  · have hl : (T.set s (putK kvs (.inr w) (.int T.length)) ++ [[]]).length = T.length + 1 := by simp
    rw [hl]
    rcases List.mem_append.mp hk with m | m
    · rcases List.mem_or_eq_of_mem_set m with m | m
      · have := h.sz k m
        omega
      · rw [m]
        have h1 := length_putK kvs (.inr w) (.int T.length)
        have h2 := h.sz kvs (List.mem_of_getElem? hs)
        omega
    · rw [List.mem_singleton.mp m]
      exact Nat.zero_le _
theorem TrI.takes {T : Trie} {ps : List (List Str)} (h : TrI T ps) {l : List Str} (hl : l ∈ ps) : ∀ n, l.take (l.length - n) ∈ ps
  | 0 => by simpa using hl
  | n + 1 => by
    have ih := h.takes hl n
    by_cases e : l.length - n = 0
    · rw [show l.length - (n + 1) = l.length - n by omega]
      exact ih
    · have q : l.length - n = l.length - (n + 1) + 1 := by omega
      have lt : l.length - (n + 1) < l.length := by omega
      rw [q, List.take_add_one, List.getElem?_eq_getElem lt] at ih
      exact h.pre ih
theorem TrI.take {T : Trie} {ps : List (List Str)} (h : TrI T ps) {l : List Str} (hl : l ∈ ps) {j : Nat} (hj : j ≤ l.length) : l.take j ∈ ps := by
  have := h.takes hl (l.length - j)
  rwa [show l.length - (l.length - j) = j by omega] at this
structure EndsOk (E : List (Key × V)) (ps L : List (List Str)) : Prop where
  lt : ∀ {s : Nat}, (valV E (.inl s)).isSome = true → s < ps.length
  iff : ∀ {s : Nat} {p : List Str}, ps[s]? = some p → ((valV E (.inl s)).isSome = true ↔ p ∈ L)
  all : ∀ l ∈ L, l ∈ ps
theorem EndsOk.new : EndsOk [] [[]] [] := ⟨fun h => (by cases h), fun _ => ⟨fun h => (by cases h), fun h => (by cases h)⟩, fun _ h => (by cases h)⟩
theorem EndsOk.add {E : List (Key × V)} {T : Trie} {ps e L : List (List Str)} {l : List Str} {s : Nat} {v : V} (h : EndsOk E ps L) (ti : TrI T (ps ++ e)) (hs : (ps ++ e)[s]? = some l) : EndsOk (putK E (.inl (s : Int)) v) (ps ++ e) (L ++ [l]) where
  lt := fun {i} hi => by
    rw [valV_put] at hi
    split at hi
    · rename_i z
      have z : (i : Int) = (s : Int) := by injection z
      have : i = s := by omega
      subst this
      exact (List.getElem?_eq_some_iff.mp hs).1
    · have := h.lt hi
      rw [List.length_append]
      omega
  iff := fun {i p} hp => by
    rw [valV_put]
    split
    · rename_i z
      have z : (i : Int) = (s : Int) := by injection z
      have : i = s := by omega
      subst this
      rw [hs] at hp
      cases hp
      exact ⟨fun _ => List.mem_append.mpr (.inr (List.mem_singleton.mpr rfl)), fun _ => rfl⟩
    · rename_i z
      have ne : i ≠ s := fun q => z (by rw [q])
      have nl : p ≠ l := fun q => ne (nd_idx ti.nd hp (by rw [q]; exact hs))
      have e1 : p ∈ L ++ [l] ↔ p ∈ L := by simp [nl]
      rw [e1]
      by_cases lt : i < ps.length
      · rw [List.getElem?_append_left lt] at hp
        exact h.iff hp
      · have n1 : ¬ (valV E (.inl (i : Int))).isSome = true := fun q => lt (h.lt q)
        have n2 : p ∉ L := fun q => by
          obtain ⟨j, hj⟩ := List.getElem?_of_mem (h.all p q)
          have jl := (List.getElem?_eq_some_iff.mp hj).1
          have : i = j := nd_idx ti.nd hp (by rw [List.getElem?_append_left jl]; exact hj)
          omega
        exact ⟨fun q => absurd q n1, fun q => absurd q n2⟩
  all := fun p hp => by
    rcases List.mem_append.mp hp with m | m
    · exact List.mem_append.mpr (.inl (h.all p m))
    · rw [List.mem_singleton.mp m]
      exact List.mem_of_getElem? hs
end L2
namespace L2
open PySem PySem.W PyProof.Rows
def KP (key : Nat → Int) (p : Array Nat) (i : Nat) : Int := key ((p[i]?).getD 0)
theorem getD_at (p : Array Nat) (i : Nat) : p.getD i 0 = (p[i]?).getD 0 := by
  by_cases h : i < p.size
  · simp [Array.getD, h]
  · simp [Array.getD, h]
structure POk (key : Nat → Int) (N : Nat) (p : Array Nat) : Prop where
  pm : p.toList.Perm (List.range N)
  un : ∀ i j, i < N → j < N → key i = key j → i = j
theorem POk.sz {key : Nat → Int} {N : Nat} {p : Array Nat} (h : POk key N p) : p.size = N := by
  have := h.pm.length_eq
  simpa using this
theorem POk.lt {key : Nat → Int} {N : Nat} {p : Array Nat} (h : POk key N p) {i : Nat} (hi : i < N) : (p[i]?).getD 0 < N := by
  have hs := h.sz
  have hi' : i < p.size := by omega
  rw [Array.getElem?_eq_getElem hi']
  have m : p[i] ∈ p.toList := by simp
  have := List.mem_range.mp (h.pm.mem_iff.mp m)
  simpa using this
theorem POk.ne {key : Nat → Int} {N : Nat} {p : Array Nat} (h : POk key N p) {i j : Nat} (hi : i < N) (hj : j < N) (n : i ≠ j) : KP key p i ≠ KP key p j := fun e => by
  have hs := h.sz
  have e1 := h.un _ _ (h.lt hi) (h.lt hj) e
  have nd : p.toList.Nodup := h.pm.nodup_iff.mpr List.nodup_range
  have hi' : i < p.size := by omega
  have hj' : j < p.size := by omega
  rw [Array.getElem?_eq_getElem hi', Array.getElem?_eq_getElem hj'] at e1
  simp only [Option.getD_some] at e1
  exact n (nd_idx nd (i := i) (j := j) (a := p[i]) (by simp) (by rw [e1]; simp))
def Up (key : Nat → Int) (p : Array Nat) (n : Nat) : Prop := ∀ i j, i ≤ j → j < n → KP key p i ≤ KP key p j
def Dn (key : Nat → Int) (p : Array Nat) (n : Nat) : Prop := ∀ i j, i < j → j < n → KP key p j < KP key p i
def Asks (cmp : Nat → Nat → (Bool → Shared → Prop) → Shared → Prop) (key : Nat → Int) (N : Nat) (s : Shared) : Prop := ∀ i j C, i < N → j < N → key i ≠ key j → C (decide (key i < key j)) s → cmp i j C s
section
variable {cmp : Nat → Nat → (Bool → Shared → Prop) → Shared → Prop} {key : Nat → Int} {N : Nat} {s : Shared}
theorem q_ask {α : Type} {p : Array Nat} {i j : Nat} {k : Bool → KasT α} {Q : α → Shared → Prop} (ha : Asks cmp key N s) (hp : POk key N p) (hi : i < N) (hj : j < N) (n : i ≠ j) (h1 : KP key p i < KP key p j → (k true).kasWp cmp Q s) (h2 : KP key p j < KP key p i → (k false).kasWp cmp Q s) : (KasT.ask (p.getD i 0) (p.getD j 0) k).kasWp cmp Q s := by
  have ne := hp.ne hi hj n
  rw [getD_at, getD_at]
  refine ha _ _ _ (hp.lt hi) (hp.lt hj) ne ?_
  by_cases z : KP key p i < KP key p j
  · rw [show decide (key ((p[i]?).getD 0) < key ((p[j]?).getD 0)) = true from decide_eq_true z]
    exact h1 z
  · rw [show decide (key ((p[i]?).getD 0) < key ((p[j]?).getD 0)) = false from decide_eq_false z]
    exact h2 (by unfold KP at *; omega)
theorem q_asc {p : Array Nat} (ha : Asks cmp key N s) (hp : POk key N p) : ∀ (f n : Nat) {Q : Nat → Shared → Prop}, 1 ≤ n → n + f ≤ N → Up key p n → (∀ m, n ≤ m → m ≤ n + f → Up key p m → (m < n + f → KP key p m < KP key p (m - 1)) → Q m s) → (kas_asc p f n).kasWp cmp Q s
  | 0, n, Q, _, _, up, q => q n (Nat.le_refl _) (Nat.le_refl _) up fun z => absurd z (by omega)
  | f + 1, n, Q, h1, h2, up, q => by
    refine q_ask (i := n) (j := n - 1) ha hp (by omega) (by omega) (by omega) (fun z => ?_) (fun z => ?_)
    · rw [if_pos rfl]
      exact q n (Nat.le_refl _) (by omega) up fun _ => z
    · rw [if_neg (by decide)]
      refine q_asc ha hp f (n + 1) (by omega) (by omega) (fun i j hij hj => ?_) fun m a b c d => q m (by omega) (by omega) c fun x => d (by omega)
      by_cases e : j = n
      · subst e
        by_cases e2 : i = j
        · subst e2; exact Int.le_refl _
        · have := up i (j - 1) (by omega) (by omega)
          omega
      · exact up i j hij (by omega)
theorem q_desc {p : Array Nat} (ha : Asks cmp key N s) (hp : POk key N p) : ∀ (f n : Nat) {Q : Array Nat × Nat × Nat → Shared → Prop}, 1 ≤ n → n + f ≤ N → Dn key p n → (∀ m, n ≤ m → m ≤ n + f → Dn key p m → Q (p, m, 0) s) → (kas_desc f p n 0).kasWp cmp Q s
  | 0, n, Q, _, _, dn, q => q n (Nat.le_refl _) (Nat.le_refl _) dn
  | f + 1, n, Q, h1, h2, dn, q => by
    refine q_ask (i := n) (j := n - 1) ha hp (by omega) (by omega) (by omega) (fun z => ?_) (fun z => ?_)
    · rw [if_pos rfl, if_neg (by decide)]
      refine q_desc ha hp f (n + 1) (by omega) (by omega) (fun i j hij hj => ?_) fun m a b c => q m (by omega) (by omega) c
      by_cases e : j = n
      · subst e
        by_cases e2 : i = j - 1
        · subst e2; exact z
        · have := dn i (j - 1) (by omega) (by omega)
          omega
      · exact dn i j hij (by omega)
    · rw [if_neg (by decide)]
      refine q_ask (i := n - 1) (j := n) ha hp (by omega) (by omega) (by omega) (fun _ => ?_) (fun y => absurd y (by omega))
      rw [if_pos rfl]
      exact q n (Nat.le_refl _) (by omega) dn
theorem rev_ok {p : Array Nat} {n : Nat} (hp : POk key N p) : POk key N (kas_rev p 0 n) := ⟨(Array.perm_iff_toList_perm.mp (mirror_perm p 0 n _)).trans hp.pm, hp.un⟩
theorem rev_at {p : Array Nat} {n i : Nat} (hn : n ≤ p.size) (hi : i < n) : KP key (kas_rev p 0 n) i = KP key p (n - 1 - i) := by
  unfold KP kas_rev
  rw [getElem?_mirror_all hn, if_pos ⟨Nat.zero_le _, hi⟩, Nat.zero_add]
theorem q_tail {p : Array Nat} {n : Nat} {Q : Nat × Array Nat → Shared → Prop} (ha : Asks cmp key N s) (hp : POk key N p) (h1 : 1 ≤ n) (hn : n ≤ N) (dn : Dn key p n) (q : ∀ m p', 1 ≤ m → m ≤ N → POk key N p' → Up key p' m → Q (m, p') s) : (kas_tail3 n N p).kasWp cmp Q s := by
  have hs := hp.sz
  unfold kas_tail3
  rw [KasT.kasWp_bind]
  refine q_asc ha (rev_ok hp) (N - n) n h1 (by omega) (fun i j hij hj => ?_) fun m a b c _ => q m _ (by omega) (by omega) (rev_ok hp) c
  rw [rev_at (by omega) (by omega), rev_at (by omega) hj]
  by_cases e : i = j
  · subst e; exact Int.le_refl _
  · exact Int.le_of_lt (dn _ _ (by omega) (by omega))
theorem q_count {p : Array Nat} {Q : Nat × Array Nat → Shared → Prop} (ha : Asks cmp key N s) (hp : POk key N p) (h2 : 2 ≤ N) (q : ∀ m p', 1 ≤ m → m ≤ N → POk key N p' → Up key p' m → Q (m, p') s) : (kas_count N p).kasWp cmp Q s := by
  unfold kas_count
  rw [KasT.kasWp_bind]
  refine q_asc ha hp (N - 1) 1 (Nat.le_refl _) (by omega) (fun i j hij hj => by rw [show i = j by omega]; exact Int.le_refl _) fun m a b c d => ?_
  by_cases e : (m == N) = true
  · rw [if_pos e]
    exact q m p a (by omega) hp c
  · have e' : m ≠ N := fun z => e (by rw [z]; exact beq_self_eq_true _)
    rw [if_neg e]
    have dd := d (by omega)
    by_cases z : m > 1
    · rw [if_pos z]
      refine q_ask (i := 0) (j := m - 1) ha hp (by omega) (by omega) (by omega) (fun _ => ?_) (fun y => ?_)
      · rw [if_pos rfl]
        exact q m p a (by omega) hp c
      · have := c 0 (m - 1) (by omega) (by omega)
        omega
    · rw [if_neg z]
      have m1 : m = 1 := by omega
      subst m1
      unfold kas_descPart
      rw [KasT.kasWp_bind]
      refine q_desc ha hp (N - 2) 2 (by decide) (by omega) (fun i j hij hj => ?_) fun m a b c => ?_
      · have : j = 1 ∧ i = 0 := by omega
        rw [this.1, this.2]
        exact dd
      · rw [if_neg (show ¬ (0 : Nat) > 0 by decide)]
        show (kas_tail3 m N p).kasWp cmp Q s
        exact q_tail ha hp (by omega) (by omega) c q
theorem q_place {p : Array Nat} {k : Nat} (ha : Asks cmp key N s) (hp : POk key N p) (hk : k < N) (up : Up key p k) : ∀ (f l r : Nat) {Q : Nat → Shared → Prop}, r - l ≤ f → l ≤ r → r ≤ k → (∀ i, i < l → KP key p i ≤ KP key p k) → (∀ i, r ≤ i → i < k → KP key p k < KP key p i) →
    (∀ m, m ≤ k → (∀ i, i < m → KP key p i ≤ KP key p k) → (∀ i, m ≤ i → i < k → KP key p k < KP key p i) → Q m s) → (kas_place p k f l r).kasWp cmp Q s
  | 0, l, r, Q, h1, h2, h3, lo, hi, q => q l (by omega) lo (fun i a b => hi i (by omega) b)
  | f + 1, l, r, Q, h1, h2, h3, lo, hi, q => by
    show KasT.kasWp cmp (if l ≥ r then KasT.ret l else KasT.ask (p.getD k 0) (p.getD ((l + r) / 2) 0) fun c => if c = true then kas_place p k f l ((l + r) / 2) else kas_place p k f ((l + r) / 2 + 1) r) Q s
    by_cases z : l ≥ r
    · rw [if_pos z]
      exact q l (by omega) lo (fun i a b => hi i (by omega) b)
    · rw [if_neg z]
      refine q_ask (i := k) (j := (l + r) / 2) ha hp hk (by omega) (by omega) (fun y => ?_) (fun y => ?_)
      · rw [if_pos rfl]
        refine q_place ha hp hk up f l ((l + r) / 2) (by omega) (by omega) (by omega) lo (fun i a b => ?_) q
        have := up ((l + r) / 2) i a b
        omega
      · rw [if_neg (by decide)]
        refine q_place ha hp hk up f ((l + r) / 2 + 1) r (by omega) (by omega) h3 (fun i a => ?_) hi q
        have := up i ((l + r) / 2) (by omega) (by omega)
        omega
theorem bub_at {p : Array Nat} {k l i : Nat} (hk : k < p.size) (hl : l ≤ k) : KP key (bubble p k (k - l)) i = if i = l then KP key p k else if l < i ∧ i ≤ k then KP key p (i - 1) else KP key p i := by
  unfold KP
  rw [getElem?_bubble hk (k - l) (by omega) i, show k - (k - l) = l by omega]
  split
  · rfl
  · split <;> rfl
theorem q_bin {Q : Array Nat → Shared → Prop} (ha : Asks cmp key N s) (q : ∀ p', POk key N p' → Up key p' N → Q p' s) : ∀ (f k : Nat) (p : Array Nat), POk key N p → k + f = N → Up key p k → (kas_bin f p k).kasWp cmp Q s
  | 0, k, p, hp, e, up => q p hp (by rw [show N = k by omega]; exact up)
  | f + 1, k, p, hp, e, up => by
    have hs := hp.sz
    show KasT.kasWp cmp ((kas_place p k k 0 k).bind fun l => kas_bin f (bubble p k (k - l)) (k + 1)) Q s
    rw [KasT.kasWp_bind]
    refine q_place ha hp (by omega) up k 0 k (by omega) (by omega) (by omega) (fun i a => absurd a (by omega)) (fun i a b => absurd b (by omega)) fun l hl lo hi => ?_
    refine q_bin ha q f (k + 1) _ ⟨(Array.perm_iff_toList_perm.mp (bubble_perm p k _)).trans hp.pm, hp.un⟩ (by omega) (fun i j hij hj => ?_)
    rw [bub_at (by omega) hl, bub_at (by omega) hl]
    by_cases i1 : i = l
    · rw [if_pos i1]
      by_cases j1 : j = l
      · rw [if_pos j1]; exact Int.le_refl _
      · rw [if_neg j1, if_pos (by omega)]
        exact Int.le_of_lt (hi (j - 1) (by omega) (by omega))
    · rw [if_neg i1]
      by_cases i2 : l < i ∧ i ≤ k
      · rw [if_pos i2, if_neg (by omega), if_pos (by omega)]
        exact up (i - 1) (j - 1) (by omega) (by omega)
      · rw [if_neg i2]
        by_cases j1 : j = l
        · rw [if_pos j1]
          exact lo i (by omega)
        · rw [if_neg j1]
          by_cases j2 : l < j ∧ j ≤ k
          · rw [if_pos j2]
            exact up i (j - 1) (by omega) (by omega)
          · rw [if_neg j2]
            exact up i j hij (by omega)
theorem q_sort {Q : Array Nat → Shared → Prop} (ha : Asks cmp key N s) (un : ∀ i j, i < N → j < N → key i = key j → i = j) (h2 : 2 ≤ N) (q : ∀ p', POk key N p' → Up key p' N → Q p' s) : (kas_sort N).kasWp cmp Q s := by
  unfold kas_sort
  rw [KasT.kasWp_bind]
  refine q_count ha ⟨by simp, un⟩ h2 fun m p' h1 hm hp up => ?_
  by_cases z : m < N
  · rw [if_pos z]
    rw [show max m 1 = m by omega]
    exact q_bin ha q (N - m) m p' hp (by omega) up
  · rw [if_neg z]
    have : m = N := by omega
    subst this
    exact q p' hp up
end
end L2
namespace L2
open PySem PySem.W PyProof.Rows
def HTup (h : Heap) (v : Value) (n : Int) : Prop := ∃ a o xs e t, v = .ref a ∧ h.get? a = some o ∧ o.cls = .type "tuple" ∧ o.data = .seq xs e ∧ xs[0]? = some (.int n t)
theorem HTup.keep {h h' : Heap} {v : Value} {n : Int} (k : ∀ b o, o.cls = .type "tuple" → h.get? b = some o → h'.get? b = some o) : HTup h v n → HTup h' v n
  | ⟨a, o, xs, e, t, h1, h2, h3, h4, h5⟩ => ⟨a, o, xs, e, t, h1, k _ _ h3 h2, h3, h4, h5⟩
theorem paired_getD {α β : Type} {F : α → β → Prop} (x : α) (y : β) : ∀ {l : List α} {m : List β} {i : Nat}, Paired F l m → i < l.length → F (l.getD i x) (m.getD i y)
  | _, _, _, .nil, h => absurd h (by simp)
  | _, _, 0, .cons h _, _ => h
  | _, _, i + 1, .cons _ t, h => by
    have := paired_getD x y (i := i) t (by simpa using h)
    simpa using this
theorem htups_kat {h : Heap} {vs : List Value} {ns : List Int} (r : Paired (HTup h) vs ns) : ∃ fs, KatTups h vs fs ∧ fs.length = vs.length ∧ ∀ f ∈ fs, ∃ n t, f = Value.int n t := by
  induction r with
  | nil => exact ⟨[], KatTups.nil, rfl, fun _ h => nomatch h⟩
  | @cons v n vs ns hv t ih =>
    obtain ⟨fs, k, l, c⟩ := ih
    obtain ⟨a, o, xs, e, tk, rfl, h2, h3, h4, h5⟩ := hv
    refine ⟨_, KatTups.cons h2 h3 h4 h5 k, by rw [List.length_cons, List.length_cons, l], fun f hf => ?_⟩
    rcases List.mem_cons.mp hf with e | m
    · exact ⟨_, _, e⟩
    · exact c f m
theorem head_of {xs : Array Value} {v : Value} (h : xs[0]? = some v) : ∃ r, xs.toList = v :: r := by
  obtain ⟨l⟩ := xs
  cases l with
  | nil => simp at h
  | cons x r =>
    have e : x = v := by simpa using h
    exact ⟨r, by rw [e]⟩
section
variable {prog : Program} {w : World} {A : Around} {E : Value → Shared → Prop} {s : Shared}
theorem ask_tup {vs : List Value} {ns : List Int} (r : Paired (HTup s.heap) vs ns) : Asks (kas_ask prog w A (tuples' true) vs) (fun i => ns.getD i 0) vs.length s := by
  intro i j C hi hj ne hc
  obtain ⟨a, o, xs, e, t, e1, h2, h3, h4, h5⟩ := paired_getD Value.none 0 r hi
  obtain ⟨a', o', xs', e', t', e1', h2', h3', h4', h5'⟩ := paired_getD Value.none 0 r hj
  unfold kas_ask
  rw [e1, e1']
  obtain ⟨xr, ex⟩ := head_of h5
  obtain ⟨yr, ey⟩ := head_of h5'
  refine kat_lt h2 h4 h2' h4' ?_
  rw [ex, ey, List.zip_cons_cons]
  refine kat_cons (wpAny_eqBool_int ?_)
  rw [show (ns.getD i 0 == ns.getD j 0) = false from beq_eq_false_iff_ne.mpr ne]
  exact kat_no (oneLt_int hc)
theorem range_getD {α : Type} (d : α) (l : List α) : ((List.range l.length).map fun i => l.getD i d) = l := by
  apply List.ext_getElem
  · simp
  · intro i h1 h2
    simp [h2]
theorem lsortT {a : Addr} {vs : List Value} {ns : List Int} {n : Nat} {P : PySem.Fin → Shared → Prop} (gq : s.heap.get? a = some (seqObj "list" vs.toArray n)) (r : Paired (HTup s.heap) vs ns) (un : ns.Nodup) (h64 : vs.length < 64)
    (q : ∀ js : List Nat, js.Perm (List.range vs.length) → (js.map fun i => ns.getD i 0).Pairwise (· ≤ ·) → P (.done (.ret .none)) { s with heap := sortedHeap s.heap a vs (js.map fun i => vs.getD i Value.none).toArray }) : wpAny (model prog w) A (Builtin.«list.sort» ⟨[.ref a], []⟩) P E s := by
  rw [list_sort_plain]
  have la : a < s.heap.objs.size := Heap.lt_size gq
  have lns : vs.length = ns.length := Paired.length r
  refine wpAny_bind (listItems_at gq rfl (wpAny_bind (listUpdate_at gq rfl ?_)))
  obtain ⟨ep, g1⟩ : ∃ ep, (s.heap.update a (Obj.mapSeq fun _ => (#[] : Array Value))).get? a = some (seqObj "list" #[] ep) := ⟨_, get?_update_seq gq fun _ => #[]⟩
  refine wpAny_bind (seqEpoch_at g1 rfl (wpAny_bind (wpAny_newTuple (wpAny_bind (wpAny_newList (wpAny_holding ?_))))))
  have keep : ∀ b o, b ≠ a → s.heap.get? b = some o → (((s.heap.update a (Obj.mapSeq fun _ => (#[] : Array Value))).push (seqObj "tuple" vs.toArray 0)).push (seqObj "list" #[] 0)).get? b = some o := fun b o nb e =>
    Heap.get?_push_of_some _ (Heap.get?_push_of_some _ (by rw [Heap.get?_update_ne _ _ _ _ nb]; exact e))
  have g6 : (((s.heap.update a (Obj.mapSeq fun _ => (#[] : Array Value))).push (seqObj "tuple" vs.toArray 0)).push (seqObj "list" #[] 0)).get? a = some (seqObj "list" #[] ep) := Heap.get?_push_of_some _ (Heap.get?_push_of_some _ g1)
  have r6 : Paired (HTup (((s.heap.update a (Obj.mapSeq fun _ => (#[] : Array Value))).push (seqObj "tuple" vs.toArray 0)).push (seqObj "list" #[] 0))) vs ns := Paired.mapP r fun _ _ => HTup.keep fun b o c e => keep b o (fun z => by
    rw [z, gq] at e
    cases e
    exact absurd (show Value.type "list" = Value.type "tuple" from c) (by decide)) e
  show wpAny (model prog w) A _ P E (({ s with heap := (((s.heap.update a (Obj.mapSeq fun _ => (#[] : Array Value))).push (seqObj "tuple" vs.toArray 0)).push (seqObj "list" #[] 0)) } : Shared))
  dsimp only
  have hb : vs.length ≤ sizeLine := by rw [sizeLine_eq]; omega
  by_cases z : vs.toArray.size < 2
  · rw [if_pos z, if_pos z]
    refine wpAny_bind (wpAny_pure ?_)
    rw [StateT.run_pure]
    refine wpAny_bind (wpAny_pure ?_)
    dsimp only
    have eo : (arrOf (SortSt.mk' general' (vs.toArray.zip vs.toArray) #[] 7 none)).map (·.2) = ((List.range vs.length).map fun i => vs.getD i Value.none).toArray := by
      rw [range_getD]
      show (vs.toArray.zip vs.toArray).map (·.2) = vs.toArray
      apply Array.ext
      · simp
      · intro i h1 h2; simp
    rw [eo]
    refine wpAny_bind (seqEpoch_at g6 rfl (wpAny_bind (listUpdate_at g6 rfl ?_ (hsz2 := by simp only [List.size_toArray, List.length_map, List.length_range]; omega))))
    simp only [bne_self_eq_false, Bool.false_eq_true, if_false]
    refine wpAny_pure (q (List.range vs.length) (List.Perm.refl _) ?_)
    have z2 : vs.length < 2 := by simpa using z
    match hv : vs.length, z2 with
    | 0, _ => exact .nil
    | 1, _ => exact .cons (fun _ h => nomatch h) .nil
  · rw [if_neg z, if_neg z]
    have z2 : 2 ≤ vs.length := by
      have : ¬ vs.length < 2 := by simpa using z
      omega
    obtain ⟨fs, kt, fl, fi⟩ := htups_kat r6
    refine wpAny_bind (kat_kind (T := .type "int") kt (by omega) (fun v hv => ?_) rfl ?_)
    · obtain ⟨k, t, rfl⟩ := fi v hv
      exact Looks.of_pure rfl
    have unk : ∀ i j, i < vs.length → j < vs.length → ns.getD i 0 = ns.getD j 0 → i = j := fun i j hi hj e => by
      have e1 : ns[i]? = some (ns.getD i 0) := by simp [lns ▸ hi]
      have e2 : ns[j]? = some (ns.getD i 0) := by rw [e]; simp [lns ▸ hj]
      exact nd_idx un e1 e2
    have run := q_sort (Q := fun p s' => s' = ({ s with heap := (((s.heap.update a (Obj.mapSeq fun _ => (#[] : Array Value))).push (seqObj "tuple" vs.toArray 0)).push (seqObj "list" #[] 0)) } : Shared) ∧ POk (fun i => ns.getD i 0) vs.length p ∧ Up (fun i => ns.getD i 0) p vs.length) (ask_tup (prog := prog) (w := w) (A := A) (s := ({ s with heap := (((s.heap.update a (Obj.mapSeq fun _ => (#[] : Array Value))).push (seqObj "tuple" vs.toArray 0)).push (seqObj "list" #[] 0)) } : Shared)) r6) unk z2 (fun p hp up => ⟨rfl, hp, up⟩)
    refine wpAny_bind (wpAny_mono (kat_run (ks := vs) (vs := vs) (Q := fun st' s' => ∃ p : Array Nat, p.size = vs.length ∧ arrOf st' = p.map (kas_item (vs.toArray.zip vs.toArray)) ∧ failedOf st' = none ∧ s' = ({ s with heap := (((s.heap.update a (Obj.mapSeq fun _ => (#[] : Array Value))).push (seqObj "tuple" vs.toArray 0)).push (seqObj "list" #[] 0)) } : Shared) ∧ POk (fun i => ns.getD i 0) vs.length p ∧ Up (fun i => ns.getD i 0) p vs.length) rfl z2 h64 (fun p st' s' b1 b2 b3 b4 => ⟨p, b1, b2, b3, b4⟩) run) ?_ fun _ _ e => e)
    rintro ⟨⟨⟩, st'⟩ s' ⟨p, hsz, har, hf, rfl, hp, up⟩
    dsimp only
    have eo := kat_snds (ks := vs) (vs := vs) rfl har
    rw [eo]
    have pl : p.toList.length = vs.length := by simpa using hsz
    refine wpAny_bind (seqEpoch_at g6 rfl (wpAny_bind (listUpdate_at g6 rfl ?_ (hsz2 := by simp only [List.size_toArray, List.length_map, pl]; omega))))
    rw [hf]
    simp only [bne_self_eq_false, Bool.false_eq_true, if_false]
    refine wpAny_pure (q p.toList hp.pm ?_)
    rw [List.pairwise_iff_getElem]
    intro i j hi hj hij
    have hi' : i < p.size := by simpa using hi
    have hj' : j < p.size := by simpa using hj
    have := up i j (Nat.le_of_lt hij) (by omega)
    unfold KP at this
    rw [Array.getElem?_eq_getElem hi', Array.getElem?_eq_getElem hj'] at this
    simpa using this
theorem sortedT {l : Addr} {vs : List Value} {ns : List Int} {Q : Value → Shared → Prop} (gl : s.heap.IsList l vs.toArray) (r : Paired (HTup s.heap) vs ns) (un : ns.Nodup) (h64 : vs.length < 64)
    (q : ∀ js : List Nat, js.Perm (List.range vs.length) → (js.map fun i => ns.getD i 0).Pairwise (· ≤ ·) → Q (.ref (s.heap.objs.size + 1)) { s with heap := sortedAll s.heap vs (js.map fun i => vs.getD i Value.none).toArray }) : wpAny (model prog w) A (call (.builtin "sorted") [.ref l]) Q E s := by
  refine Calls.call_function_entry kind_sorted plain_sorted entry_sorted (args_sorted1 _) (show wpAny _ _ (Builtin.«sorted» _) _ _ s from ?_)
  unfold Builtin.«sorted»
  refine wpAny_bind (m := checkCount "sorted" 1 1 _) (wpAny_pure (wpAny_bind (collect_list gl (wpAny_bind (wpAny_newList ?_)))))
  have sz : ((s.heap.push (seqObj "list" #[] 0)).update s.heap.objs.size (Obj.mapSeq (· ++ vs.toArray))).objs.size = s.heap.objs.size + 1 := by rw [Heap.size_update, size_push'] <;> rfl
  have gL : (((s.heap.push (seqObj "list" #[] 0)).update s.heap.objs.size (Obj.mapSeq (· ++ vs.toArray))).push (seqObj "list" vs.toArray 0)).get? (s.heap.objs.size + 1) = some (seqObj "list" vs.toArray 0) := by rw [← sz]; exact Heap.get?_push_size _ rfl
  have old : ∀ b o, s.heap.get? b = some o → (((s.heap.push (seqObj "list" #[] 0)).update s.heap.objs.size (Obj.mapSeq (· ++ vs.toArray))).push (seqObj "list" vs.toArray 0)).get? b = some o := fun b o e =>
    Heap.get?_push_of_some _ (by rw [Heap.get?_update_ne _ _ _ _ (Nat.ne_of_lt (Heap.lt_size e))]; exact Heap.get?_push_of_some _ e)
  show wpAny _ _ _ _ _ ({ s with heap := ((s.heap.push (seqObj "list" #[] 0)).update s.heap.objs.size (Obj.mapSeq (· ++ vs.toArray))).push (seqObj "list" vs.toArray 0) } : Shared)
  rw [sz]
  refine wpAny_bind (wpAny_holding (wpAny_call_entry slot_list_sort ⟨_, gL, rfl⟩ entry_list_sort (lsortT (ns := ns) gL (Paired.mapP r fun _ _ => HTup.keep fun b o _ e => old b o e) un h64 fun js b1 b2 => ⟨_, rfl, wpAny_pure ⟨_, rfl, q js b1 b2⟩⟩) (args_list_sort _)))
end
section
variable {X : Cx}
def NTup (H : Hp) (y : V) (n : Int) : Prop := ∃ b zs, y = .ref b ∧ H b = some (.tup (.int n :: zs))
theorem vals_getD {xs : List V} {us : List Value} (r : Vals xs us) : ∀ {js : List Nat}, (∀ j ∈ js, j < xs.length) → Vals (js.map fun i => xs.getD i .non) (js.map fun i => us.getD i Value.none)
  | [], _ => .nil
  | j :: js, h => .cons (paired_getD V.non Value.none r (h j List.mem_cons_self)) (vals_getD r fun i hi => h i (List.mem_cons_of_mem _ hi))
theorem call_sortedT : CallR X (.builtin "sorted") (fun xs H Q => ∃ (p : Addr) (ys : List V) (ns : List Int), xs = [.ref p] ∧ SqL X.K H p ys ∧ Paired (NTup H) ys ns ∧ ns.Nodup ∧ ns.length < 64 ∧ ∀ (l : Addr) (js : List Nat), H l = none → js.Perm (List.range ns.length) → (js.map fun i => ns.getD i 0).Pairwise (· ≤ ·) → Q (.ref l) (upd H l (.lst (js.map fun i => ys.getD i .non)))) := by
  intro pins s σ H xs us Q I r h
  obtain ⟨p, ys, ns, rfl, hq, hn, un, h64, q⟩ := h
  obtain ⟨u, rfl, rx⟩ := vals1 r
  cases rx
  obtain ⟨its, r', pl, hz⟩ := I.list hq
  have l1 := r'.length
  have l2 : ys.length = ns.length := Paired.length hn
  have ht : Paired (HTup s.heap) its ns := by
    have all : ∀ {ys : List V} {its : List Value} {ns : List Int}, Vals ys its → Paired (NTup H) ys ns → Paired (HTup s.heap) its ns := by
      intro ys its ns a
      induction a generalizing ns with
      | nil => intro b; cases b; exact .nil
      | cons ha _ ih =>
        intro b
        cases b with
        | cons hb tb =>
          refine .cons ?_ (ih tb)
          obtain ⟨c, zs, rfl, hc⟩ := hb
          cases ha
          obtain ⟨its, r2, ht, _⟩ := I.tuple (SqT.of (K := X.K) hc)
          obtain ⟨o, e2, hc2, n2, hd⟩ := ht
          cases r2 with
          | cons h0 _ =>
            obtain ⟨t, rfl⟩ := h0
            exact ⟨_, o, _, n2, t, rfl, e2, hc2, hd, by simp⟩
    exact all r' hn
  refine sortedT pl.isList ht un (by omega) fun js b1 b2 => ?_
  obtain ⟨c, he⟩ := sortedAll_at s.heap its (js.map fun i => its.getD i Value.none).toArray
  have jl : js.length = its.length := by simpa using b1.length_eq
  refine ⟨.ref (s.heap.objs.size + 1), _, I.laid (t' := s.toks) (fun _ _ e => sortedAll_old e) (Nat.le_succ _) (show ObjOk X.prog X.w _ _ _ (.lst (js.map fun i => ys.getD i .non)) from ⟨by rw [List.length_map]; omega, _, c, vals_getD r' fun j hj => ?_, he⟩), rfl, q _ js (I.hok.fresh (Nat.le_succ _)) (by rw [← l2, l1]; exact b1) b2⟩
  have := List.mem_range.mp (b1.mem_iff.mp hj)
  omega
end
end L2
namespace L2
open PySem PySem.Spec PySem.W PySem.Calls PyProof.Rows
section
variable {prog : Program} {w : World} {A : Around} {d : Addr} {o : Obj} {es : Array DictEntry} {ep : Nat}
theorem walks_raw (hh : A.handled = none) (I : Addr) (ne : d ≠ I) (e3 : o.data = .dict es ep) : Walks prog w A I [I, d] [I] es.size (fun i v => ∃ en, es[i]? = some en ∧ v = en.key) (fun i h => h.IsKeyIter I d i es.size ep ∧ h.get? d = some o) where
  sub := by intro b hb; simp at hb; simp [hb]
  frame := fun _ _ _ st hk => ⟨st.1.at fun o e => hk I (by simp) o e, hk d (by simp) o st.2⟩
  item := fun i s Q E hi st hQ => by
    have hx : es[i]? = some es[i] := Array.getElem?_eq_getElem hi
    exact rawd_next st.1 st.2 e3 hx fun h' it' sb => hQ _ h' s.toks ⟨_, hx, rfl⟩ ⟨it', (sb.2 d ne).trans st.2⟩ fun b o hb e => (sb.2 b (fun z => hb (by simp [z]))).trans e
  done := fun s Q E st hQ => rawd_end hh st.1 st.2 e3 (Nat.le_refl _) fun h' eb => hQ h' s.toks fun b o hb e => eb b o (fun z => hb (by simp [z])) e
  self := fun _ _ _ _ st hQ => wpAny_pyIter_keyiter st.1 hQ
theorem kdl_raw (lo : (d == sysModules) = false) (e2 : o.ExactDict) (e3 : o.data = .dict es ep) : KdlSrc prog w "dict" d d es.size (fun i v => ∃ en, es[i]? = some en ∧ v = en.key) (fun h => h.get? d = some o) where
  type := fun _ hm => ⟨o, hm, e2.1⟩
  there := fun _ hm => ⟨Heap.lt_size hm, Heap.lt_size hm⟩
  keep := fun _ _ hm hk => hk d (.inl rfl) o hm
  notList := by decide
  notTuple := by decide
  hint := fun _ _ _ _ hm hq => kdl_hint_dict ⟨o, hm, e2.1⟩ hq
  iter := fun _ _ hh hm => ⟨_, _, (fun _ _ hq => rawd_iter lo hm e2 e3 hq), walks_raw hh _ (Nat.ne_of_lt (Heap.lt_size hm)) e3, ⟨⟨_, Heap.get?_push_size _ rfl, rfl, rfl⟩, Heap.get?_push_of_some _ hm⟩⟩
end
theorem paired_keys {H : Hp} : ∀ {kvs : List (List Key × V)} {xs : List (List Key × Addr × Value)}, KT H kvs xs → Paired (fun kv y => ∃ b, y = V.ref b ∧ H b = some (.tup (kv.1.map kV))) kvs (xs.map fun q => V.ref q.2.1)
  | _, _, .nil => .nil
  | _, _, .cons h t => .cons ⟨_, rfl, h.2.1⟩ (paired_keys t)
theorem vals_refs : ∀ (xs : List (List Key × Addr × Value)), Vals (xs.map fun q => V.ref q.2.1) (xs.map fun q => Value.ref q.2.1)
  | [] => .nil
  | _ :: r => .cons rfl (vals_refs r)
section
variable {X : Cx}
theorem call_listD (hc : X.calm = true) : CallR X (.type "list") (fun xs H Q => ∃ (a : Addr) (kvs : List (List Key × V)), xs = [V.ref a] ∧ Rd H a (.dT kvs) ∧ ∀ l ys, H l = none → Paired (fun kv y => ∃ b, y = V.ref b ∧ H b = some (.tup (kv.1.map kV))) kvs ys → Q (.ref l) (upd H l (.lst ys))) := by
  intro pins s σ H xs us Q I r h
  obtain ⟨a, kvs, rfl, ha, q⟩ := h
  obtain ⟨u, rfl, ru⟩ := vals1 r
  cases ru
  obtain ⟨z, y, ks, rp, o, es, ep, h1, h2, h3, h4, h5⟩ := (show ObjOk X.prog X.w H s.heap a (.dT kvs) from rd_of I.hok ha)
  have hz : es.size = kvs.length := by rw [size_of_entries h4, Paired.length rp]
  have hk : es.size = ks.length := size_of_entries h4
  refine kdl_call (kdl_raw y h2 h3) (I.ok.hd hc) h1 (by rw [hz]; exact z) fun h' tk acc' c' keep hnew hit => ?_
  have ea : acc'.toList = ks.map fun q => Value.ref q.2.1 := by
    apply List.ext_getElem?
    intro j
    rw [Array.getElem?_toList, List.getElem?_map]
    cases e : ks[j]? with
    | none =>
      have : ks.length ≤ j := List.getElem?_eq_none_iff.mp e
      rw [Array.getElem?_eq_none (by rw [hit.1]; omega)]
      rfl
    | some x =>
      have jl : j < ks.length := (List.getElem?_eq_some_iff.mp e).1
      have jl2 : j < acc'.size := by rw [hit.1]; omega
      have hj : acc'[j]? = some acc'[j] := Array.getElem?_eq_getElem jl2
      obtain ⟨en, e1, e2⟩ := hit.2 j _ hj
      obtain ⟨k2, b, u⟩ := x
      have een : es[j]? = some (entryOfKey (tupleKind (mixKind X.prog X.w)) (k2, b, u)) := by rw [entry_at h4, e] <;> rfl
      rw [een] at e1
      cases e1
      rw [hj, e2]
      rfl
  refine ⟨.ref s.heap.objs.size, _, I.laid (t' := tk) keep (Nat.le_refl _) (show ObjOk X.prog X.w _ h' _ (.lst (ks.map fun q => V.ref q.2.1)) from ⟨?_, ks.map fun q => Value.ref q.2.1, c', vals_refs ks, ?_⟩), rfl, q _ _ (I.hok.fresh (Nat.le_refl _)) (paired_keys rp)⟩
  · rw [List.length_map, ← hk, hz]; exact z
  · rw [← ea]
    simpa using hnew
end
end L2
namespace D
open PySem L2
def top (i : Nat) : Stmt := PySem.Challenge.pw_gloss_k33_whole_marks.main.body.getD i (.Pass ⟨0, 0, 0, 0⟩)
abbrev s_is_word : Stmt := top 6
abbrev s_bent : Stmt := top 8
abbrev s_forms : Stmt := top 9
abbrev s_state_behind : Stmt := top 11
abbrev s_strength : Stmt := top 18
abbrev s_things_with_homes : Stmt := top 20
abbrev s_rows_with_homes : Stmt := top 21
abbrev s_tellings_of : Stmt := top 23
abbrev s_told_at : Stmt := top 24
abbrev s_marks_by : Stmt := top 25
abbrev s_marks : Stmt := top 26
abbrev s_l_cell : Stmt := top 28
abbrev s_l_signs : Stmt := top 29
abbrev s_l_menu : Stmt := top 30
abbrev s_l_row : Stmt := top 31
abbrev s_l_bends : Stmt := top 32
abbrev s_l_told : Stmt := top 33
abbrev s_l_number : Stmt := top 34
abbrev s_l_doc : Stmt := top 35
abbrev s_l_shapes : Stmt := top 36
abbrev s_l_tellings : Stmt := top 37
abbrev s_l_force : Stmt := top 38
abbrev s_l_winners : Stmt := top 39
abbrev s_l_longest : Stmt := top 40
abbrev s_l_rows : Stmt := top 41
abbrev s_l_whole : Stmt := top 42
abbrev s_l_kinds : Stmt := top 43
abbrev s_l_row_marked : Stmt := top 44
abbrev s_l_walked : Stmt := top 45
abbrev s_law : Stmt := top 46
end D
namespace D
open PySem L2
def cellN (ns : List Int) (k : Int) : Int := if 0 < (ns.length : Int) then (ns.getD (k * 7 % (ns.length : Int)).toNat 0 * 48271 + k * 7919) % 2147483647 else k * 7919 + 5
def cellZ (ns : List Int) (k : Int) : Int := if k < (ns.length : Int) then ns.getD k.toNat 0 else cellN ns k * cellN ns k % 2147483629
def good (c : Nat) : Bool := (decide (97 ≤ c) && decide (c ≤ 122)) || (decide (65 ≤ c) && decide (c ≤ 90)) || (decide (48 ≤ c) && decide (c ≤ 57))
abbrev W62 : Str := ("abcdefghijklmnopqrstuvwxyzABCDEFGHIJKLMNOPQRSTUVWXYZ0123456789" : Str)
theorem at_nat {ns : List Int} {k : Int} (h0 : 0 ≤ k) (h : k < (ns.length : Int)) : atI (ns.map V.int) k = some (.int (ns.getD k.toNat 0)) := by
  have hk : k.toNat < ns.length := by omega
  have ek : k = ((k.toNat : Nat) : Int) := by omega
  have q : atI (ns.map V.int) ((k.toNat : Nat) : Int) = some (.int (ns.getD k.toNat 0)) := atI_nat (by rw [List.getElem?_map, List.getElem?_eq_getElem hk, List.getD_eq_getElem?_getD, List.getElem?_eq_getElem hk] <;> rfl)
  rw [← ek] at q
  exact q
def spCell (K : PySem.W.Frag) : Sp := fun vs H Q _ => ∃ (a : Addr) (ns : List Int) (k : Int), vs = [.ref a, .int k] ∧ SqL K H a (ns.map V.int) ∧ ns.length ≤ 63 ∧ 0 ≤ k ∧ k ≤ 100000 ∧ Q (.int (cellZ ns k)) H
section
variable {P : Program} {w : World} {K : PySem.W.Frag} {mg : Str → Option Value} {base : Heap} {f : Addr} {fd : FuncData}
theorem scCell : FnScope ["_law_script", "_law_k", "_law_number_here"] ["_law_script", "_law_k"] (defScope s_l_cell) := ⟨rfl, rfl, rfl, by decide +kernel, rfl, by decide +kernel, by decide +kernel⟩
theorem ok_cell (F : Fun K "_law_cell" "_law_cell" s_l_cell f fd) (ml : mg "len" = none) : FnOk P w K mg base CX0 1 f fd ["_law_script", "_law_k"] (spCell K) := by
  refine F.ok scCell (fun vs H Q E h => ?_) (fun cdv A outer s H vs Q E hr h => ?_)
  · obtain ⟨a, ns, k, rfl, _⟩ := h
    rfl
  obtain ⟨a, ns, k, rfl, hS, h63, h0, h1, q⟩ := h
  refine ⟨_, pss_cons (ps_if (pt_cmpR op_lt (pv 1) (pe_callB call_len_seq rfl ml PySem.boot_len (pa_cons (pv 0) pa_nil)) (nomark _)) (pss_one (ps_ret (pe_ix ix_list (pv 0) (pv 1) (fun _ _ => rfl)))) pss_nil)
    (pss_cons (ps_set (i := 2) scCell.nd rfl (Or.inl rfl) (pe_op op_add (pe_op op_mul (pv 1) pe_int) pe_int))
    (pss_cons (ps_if (pt_cmpR op_gt (pe_callB call_len_seq rfl ml PySem.boot_len (pa_cons (pv 0) pa_nil)) pe_int (nomark _))
      (pss_one (ps_set (i := 2) scCell.nd rfl (Or.inl rfl) (pe_op op_mod (pe_op op_add (pe_op op_mul (pe_ix ix_list (pv 0) (pe_op op_mod (pe_op op_mul (pv 1) pe_int) (pe_callB call_len_seq rfl ml PySem.boot_len (pa_cons (pv 0) pa_nil))) (fun _ _ => rfl)) pe_int) (pe_op op_mul (pv 1) pe_int)) pe_int))) pss_nil)
    (pss_one (ps_ret (pe_op op_mod (pe_op op_mul (pv 2) (pv 2)) pe_int))))), ?_⟩
  have hl : (ns.map V.int).length = ns.length := List.length_map _
  refine ⟨_, rfl, _, rfl, a, _, rfl, .inl hS, _, _, rfl, rfl, _, rfl, ?_⟩
  refine ite2 (fun c => ?_) (fun c => ?_)
  · have c' : k < (((ns.map V.int).length : Nat) : Int) := of_decide_eq_true c
    rw [hl] at c'
    refine ⟨_, rfl, _, rfl, a, _, _, _, rfl, rfl, hS, at_nat h0 c', ?_⟩
    have e : cellZ ns k = ns.getD k.toNat 0 := if_pos c'
    rw [e] at q
    exact q
  · have c' : ¬ k < (((ns.map V.int).length : Nat) : Int) := of_decide_eq_false (Bool.eq_false_iff.mpr c)
    rw [hl] at c'
    have e : cellZ ns k = cellN ns k * cellN ns k % 2147483629 := if_neg c'
    rw [e] at q
    refine ⟨_, rfl, _, _, rfl, rfl, .inr ⟨by decide, by decide⟩, _, _, rfl, rfl, ?_⟩
    refine ⟨_, rfl, a, _, rfl, .inl hS, _, _, rfl, rfl, _, rfl, ?_⟩
    refine ite2 (fun d => ?_) (fun d => ?_)
    · have d' : (0 : Int) < (((ns.map V.int).length : Nat) : Int) := of_decide_eq_true d
      rw [hl] at d'
      have hm0 : 0 ≤ k * 7 % (ns.length : Int) := Int.emod_nonneg _ (by omega)
      have hm1 : k * 7 % (ns.length : Int) < (ns.length : Int) := Int.emod_lt_of_pos _ d'
      have en : cellN ns k = (ns.getD (k * 7 % (ns.length : Int)).toNat 0 * 48271 + k * 7919) % 2147483647 := if_pos d'
      have b0 : 0 ≤ cellN ns k := by rw [en]; exact Int.emod_nonneg _ (by decide)
      have b1 : cellN ns k < 2147483647 := by rw [en]; exact Int.emod_lt_of_pos _ (by decide)
      refine ⟨_, rfl, _, rfl, _, _, rfl, rfl, .inr ⟨by decide, by decide⟩, _, rfl, a, _, rfl, .inl hS, _, _, rfl, rfl, by rw [hl]; exact d', a, _, _, _, rfl, rfl, hS, at_nat (by rw [hl]; exact hm0) (by rw [hl]; exact hm1), _, _, rfl, rfl, .inr ⟨by decide, by decide⟩,
        _, rfl, _, _, rfl, rfl, .inr ⟨by decide, by decide⟩, _, _, rfl, rfl, _, _, rfl, rfl, (by show (0 : Int) < _; decide), ?_⟩
      rw [hl]
      dsimp only
      rw [← en]
      exact ⟨_, rfl, _, rfl, _, _, rfl, rfl, .inl ⟨by omega, by omega⟩, _, _, rfl, rfl, (by show (0 : Int) < _; decide), q⟩
    · have d' : ¬ (0 : Int) < (((ns.map V.int).length : Nat) : Int) := of_decide_eq_false (Bool.eq_false_iff.mpr d)
      rw [hl] at d'
      have en : cellN ns k = k * 7919 + 5 := if_neg d'
      rw [en] at q
      exact ⟨_, rfl, _, rfl, _, _, rfl, rfl, .inl ⟨by omega, by omega⟩, _, _, rfl, rfl, (by show (0 : Int) < _; decide), q⟩
end
theorem same_new {H : Hp} {p : Addr} (h : H p = none) (o : HO) : Same H (upd H p o) := fun b u q => by rw [upd_ne (ne_of_none q h)]; exact q
abbrev cs (x : Str) : List Nat := x.cps.toList
theorem cs_len (x : Str) : (cs x).length = x.length := by simp [Str.length]
theorem cs_app (x y : Str) : cs (x ++ y) = cs x ++ cs y := by
  show (x.cps ++ y.cps).toList = _
  simp
theorem cs_mk (l : List Nat) : cs ⟨l.toArray⟩ = l := by simp
theorem len_mk (l : List Nat) : (⟨l.toArray⟩ : Str).length = l.length := by simp [Str.length]
theorem len_app (x y : Str) : (x ++ y).length = x.length + y.length := by rw [← cs_len, cs_app, List.length_append, cs_len, cs_len]
theorem str_ext {x y : Str} (h : cs x = cs y) : x = y := by
  cases x with
  | mk a =>
    cases y with
    | mk b => exact congrArg Str.mk (Array.toList_inj.mp h)
def allGood (x : Str) : Prop := (cs x).all good = true
theorem allGood.app {x y : Str} (h1 : allGood x) (h2 : allGood y) : allGood (x ++ y) := by
  unfold allGood
  rw [cs_app, List.all_append, h1, h2]
  rfl
theorem allGood.mk {l : List Nat} (h : l.all good = true) : allGood ⟨l.toArray⟩ := by
  unfold allGood
  rw [cs_mk]
  exact h
theorem all_take {l : List Nat} {n : Nat} (h : l.all good = true) : (l.take n).all good = true := by
  rw [List.all_eq_true] at h ⊢
  exact fun c hc => h c (List.mem_of_mem_take hc)
theorem cut_from (x : Str) {i : Int} (h : 0 ≤ i) : cutC x (some i) none = (cs x).drop i.toNat := by
  have e : i = ((i.toNat : Nat) : Int) := by omega
  unfold cutC
  rw [e, HT.sIx_nat, HT.sIx_none]
  show ((cs x).drop (min i.toNat x.length)).take (x.length - min i.toNat x.length) = _
  rw [List.take_of_length_le (by rw [List.length_drop, cs_len]; exact Nat.le_refl _)]
  have ei : (((i.toNat : Nat) : Int)).toNat = i.toNat := by omega
  rw [ei]
  by_cases hi : i.toNat ≤ x.length
  · rw [Nat.min_eq_left hi]
  · rw [Nat.min_eq_right (by omega), List.drop_of_length_le (by rw [cs_len]; exact Nat.le_refl _), List.drop_of_length_le (by rw [cs_len]; omega)]
theorem cut_to (x : Str) {i : Int} (h : 0 ≤ i) : cutC x none (some i) = (cs x).take i.toNat := by
  have e : i = ((i.toNat : Nat) : Int) := by omega
  unfold cutC
  rw [e, HT.sIx_nat, HT.sIx_none]
  show ((cs x).drop 0).take (min i.toNat x.length - 0) = _
  have ei : (((i.toNat : Nat) : Int)).toNat = i.toNat := by omega
  rw [ei, List.drop_zero, Nat.sub_zero]
  by_cases hi : i.toNat ≤ x.length
  · rw [Nat.min_eq_left hi]
  · rw [Nat.min_eq_right (by omega), List.take_of_length_le (by rw [cs_len]; exact Nat.le_refl _), List.take_of_length_le (by rw [cs_len]; omega)]
theorem big : (100000 : Nat) ≤ sizeLine := by decide
theorem w62_good : (cs W62).all good = true := by decide +kernel
structure Nm (mg : Str → Option Value) : Prop where
  len : mg "len" = none
  range : mg "range" = none
  int : mg "int" = none
  tuple : mg "tuple" = none
  list : mg "list" = none
  mx : mg "max" = none
  mn : mg "min" = none
  isi : mg "isinstance" = none
def Wd (x : Str) : Prop := 1 ≤ x.length ∧ x.length ≤ 20 ∧ allGood x
theorem keep_upd {H H' : Hp} {p : Addr} (hp : H p = none) (g : Same H H') (o : HO) : Same H (upd H' p o) := fun b u e => by rw [upd_ne (ne_of_none e hp)]; exact g b u e
theorem at_of {α : Type} {xs : List α} {k : Int} (h0 : 0 ≤ k) (h : k < (xs.length : Int)) : ∃ v, atI xs k = some v ∧ xs[k.toNat]? = some v := by
  have hk : k.toNat < xs.length := by omega
  have ek : k = ((k.toNat : Nat) : Int) := by omega
  have q := atI_nat (List.getElem?_eq_getElem hk)
  rw [← ek] at q
  exact ⟨_, q, List.getElem?_eq_getElem hk⟩
theorem at_str {ws : List Str} {k : Int} (h0 : 0 ≤ k) (h : k < (ws.length : Int)) : ∃ z, z ∈ ws ∧ atI (ws.map V.str) k = some (.str z) := by
  obtain ⟨v, h1, h2⟩ := at_of (xs := ws.map V.str) h0 (by rw [List.length_map]; exact h)
  rw [List.getElem?_map] at h2
  cases hz : ws[k.toNat]? with
  | none => rw [hz] at h2; cases h2
  | some z =>
    rw [hz] at h2
    cases h2
    exact ⟨z, List.mem_of_getElem? hz, h1⟩
theorem at_int {is : List Int} {k : Int} (h0 : 0 ≤ k) (h : k < (is.length : Int)) : ∃ z, z ∈ is ∧ atI (is.map V.int) k = some (.int z) := by
  obtain ⟨v, h1, h2⟩ := at_of (xs := is.map V.int) h0 (by rw [List.length_map]; exact h)
  rw [List.getElem?_map] at h2
  cases hz : is[k.toNat]? with
  | none => rw [hz] at h2; cases h2
  | some z =>
    rw [hz] at h2
    cases h2
    exact ⟨z, List.mem_of_getElem? hz, h1⟩
end D
namespace D
open PySem L2
theorem seqif_post {c : TT} {t u : TS} {D : Ends} {σ : St} {H : Hp} (b : Bool) (M : St → Hp → Prop) (hc : ∀ Q : Bool → Hp → Prop, Q b H → c σ H Q) (ht : b = true → ∀ Nx : Ends, (∀ σ' H', M σ' H' → Nx.nx σ' H') → t Nx σ H) (hf : b = false → M σ H) (hn : ∀ σ' H', M σ' H' → u D σ' H') : tSeq (tIfS c t tNext) u D σ H :=
  if_tt (t := t) (u := tNext) (D := { D with nx := u D }) b hc (fun z => ht z _ hn) (fun z => hn _ _ (hf z))
theorem oneif_post {c : TT} {t : TS} {D : Ends} {σ : St} {H : Hp} (b : Bool) (hc : ∀ Q : Bool → Hp → Prop, Q b H → c σ H Q) (ht : b = true → t D σ H) (hf : b = false → D.nx σ H) : tIfS c t tNext D σ H :=
  if_tt (t := t) (u := tNext) (D := D) b hc ht hf
theorem nxE {X b c : St → Hp → Prop} {r : VK} {σ : St} {H : Hp} (h : X σ H) : Ends.nx { nx := X, rt := r, bk := b, ct := c } σ H := h
def spSigns : Sp := fun vs H Q _ => ∃ (c : Int) (fr : Bool), vs = [.int c, .bl fr] ∧ ∀ (sg : List Int) r H', Same H H' → H r = none → H' r = some (.lst (sg.map V.int)) → sg.length = 20 → (∀ x ∈ sg, 0 ≤ x ∧ x < 62) → Q (.ref r) H'
section
variable {P : Program} {w : World} {K : PySem.W.Frag} {mg : Str → Option Value} {base : Heap} {f : Addr} {fd : FuncData}
theorem scSigns : FnScope ["_law_cell_here", "_law_free", "_law_signs_here", "_law_j", "_law_number_here"] ["_law_cell_here", "_law_free"] (defScope s_l_signs) := ⟨rfl, rfl, rfl, by decide +kernel, rfl, by decide +kernel, by decide +kernel⟩
set_option maxHeartbeats 4000000 in
theorem ok_signs (F : Fun K "_law_signs" "_law_signs" s_l_signs f fd) (T : Nm mg) : FnOk P w K mg base CX0 1 f fd ["_law_cell_here", "_law_free"] spSigns := by
  refine F.ok scSigns (fun vs H Q E h => ?_) (fun cdv A outer s H vs Q E hr h => ?_)
  · obtain ⟨c, fr, rfl, _⟩ := h
    rfl
  obtain ⟨c, fr, rfl, q⟩ := h
  refine ⟨_, pss_cons (ps_set (i := 2) scSigns.nd rfl (Or.inl rfl) (pe_lst pa_nil))
    (pss_cons (ps_for PassesOwn.never rfl (pi_range1 rfl T.range (pa_cons pe_int pa_nil)) (pg_name (i := 3) scSigns.nd rfl (Or.inl rfl))
      (pss_cons (ps_set (i := 4) scSigns.nd rfl (Or.inl rfl) (pv 0))
      (pss_cons (ps_if (pt_not (pt_val (pv 1))) (pss_one (ps_set (i := 4) scSigns.nd rfl (Or.inl rfl) (pe_op op_mod (pe_op op_add (pe_op op_add (pe_op op_mul (pv 0) pe_int) (pe_op op_mul (pe_op op_mul (pv 3) (pv 3)) pe_int)) (pe_op op_mul (pv 3) pe_int)) pe_int))) pss_nil)
      (pss_cons (ps_expr (pe_bm PySem.F.plainAttrs_list PySem.F.slot_list_append PySem.F.type_list_append mt_append (pv 2) (pa_cons (pe_op op_mod (pv 4) pe_int) pa_nil)))
      (pss_one (ps_if (pt_val (pv 1)) (pss_one (ps_set (i := 0) scSigns.nd rfl (Or.inl rfl) (pe_op op_fdiv (pv 0) pe_int))) pss_nil))))))
    (pss_one (ps_ret (pv 2)))), ?_⟩
  have hb := big
  refine ⟨(by show 0 ≤ sizeLine; decide), fun r hr0 => ?_⟩
  have g0 := same_new hr0 (.lst [])
  refine ⟨20, rfl, by decide, by decide, ?_⟩
  refine for_range (lo := 0) (n := (20 : Int).toNat) (fun i σ' H' => Same H H' ∧ ∃ (c : Int) (sg : List Int) (u3 u4 : Option V), σ' = [some (.int c), some (.bl fr), some (.ref r), u3, u4] ∧ H' r = some (.lst (sg.map V.int)) ∧ sg.length = i ∧ ∀ x ∈ sg, 0 ≤ x ∧ x < 62) ?_ ?_ ?_
  · exact ⟨g0, c, [], _, _, rfl, upd_same, rfl, fun _ h => nomatch h⟩
  · rintro i σ' H1 hi ⟨g, c, sg, u3, u4, rfl, hl, hsl, hs⟩
    have hi20 : i < 20 := hi
    refine ⟨_, rfl, ?_⟩
    refine gn_rdB ?_
    refine seqif_post (!fr) (fun σ H2 => H2 = H1 ∧ ∃ x, σ = [some (.int c), some (.bl fr), some (.ref r), some (.int (0 + (i : Int))), some (.int x)]) (fun Q q => ⟨_, rfl, _, rfl, q⟩) (fun _ Nx hN => ?_) (fun _ => ⟨rfl, c, rfl⟩) ?_
    · refine ⟨_, rfl, _, _, rfl, rfl, .inr ⟨by decide, by decide⟩, _, rfl, _, rfl, _, _, rfl, rfl, .inl ⟨by omega, by omega⟩, _, _, rfl, rfl, .inr ⟨by decide, by decide⟩, _, _, rfl, rfl, _, rfl, _, _, rfl, rfl, .inl ⟨by omega, by omega⟩, _, _, rfl, rfl, _, _, rfl, rfl, (by show (0 : Int) < _; decide), ?_⟩
      exact hN _ _ ⟨rfl, _, rfl⟩
    rintro σ2 H2 ⟨rfl, x, rfl⟩
    refine ⟨_, rfl, .inl ⟨rfl, _, SqL.of hl⟩, _, rfl, _, _, rfl, rfl, (by show (0 : Int) < _; decide), r, _, _, rfl, rfl, hl, by rw [List.length_map, hsl]; omega, ?_⟩
    have fin : ∀ c' : Int, Same H (upd H2 r (.lst (sg.map V.int ++ [.int (x % 62)]))) ∧ ∃ (c : Int) (sg' : List Int) (u3 u4 : Option V), [some (V.int c'), some (.bl fr), some (.ref r), some (.int (0 + (i : Int))), some (.int x)] = [some (.int c), some (.bl fr), some (.ref r), u3, u4] ∧ (upd H2 r (.lst (sg.map V.int ++ [.int (x % 62)]))) r = some (.lst (sg'.map V.int)) ∧ sg'.length = i + 1 ∧ ∀ x ∈ sg', 0 ≤ x ∧ x < 62 := fun c' => by
      refine ⟨keep_upd hr0 g _, c', sg ++ [x % 62], _, _, rfl, by rw [upd_same, List.map_append] <;> rfl, by rw [List.length_append, hsl] <;> rfl, fun y hy => ?_⟩
      rcases List.mem_append.mp hy with k | k
      · exact hs y k
      · rw [List.mem_singleton.mp k]
        exact ⟨Int.emod_nonneg _ (by decide), Int.emod_lt_of_pos _ (by decide)⟩
    refine nxE ?_
    refine oneif_post fr (fun Q q => ⟨_, rfl, _, rfl, q⟩) (fun _ => ?_) (fun _ => fin c)
    exact ⟨_, rfl, _, _, rfl, rfl, ⟨by decide, by decide⟩, fin _⟩
  · rintro σ' H1 ⟨g, c, sg, u3, u4, rfl, hl, hsl, hs⟩
    exact ⟨_, rfl, q sg r H1 g hr0 hl hsl hs⟩
end
end D
namespace D
open PySem L2
abbrev oneS (d : Nat) : Str := ⟨#[d]⟩
def sgI (c X : Int) (m : Int) : Int := if c % 3 = 0 then (X + m) % 62 else if c % 3 = 2 then (X + m / 2) % 26 + m % 2 * 26 else X % 62
def lnI (c n : Int) (m : Int) : Int := n + m * (if c % 3 = 1 then 1 else 0)
def MenuW (c n at' X : Int) (m : Nat) (y : Str) : Prop := y.length = (lnI c n m).toNat ∧ (cs y)[at'.toNat]? = (cs W62)[(sgI c X m).toNat]?
theorem w62_len : (cs W62).length = 62 := by decide +kernel
theorem w62_nd : (cs W62).Nodup := by decide +kernel
theorem sgI_in (c X m : Int) : 0 ≤ sgI c X m ∧ sgI c X m < 62 := by
  unfold sgI
  have a1 : 0 ≤ (X + m) % 62 := Int.emod_nonneg _ (by decide)
  have a2 : (X + m) % 62 < 62 := Int.emod_lt_of_pos _ (by decide)
  have b1 : 0 ≤ (X + m / 2) % 26 := Int.emod_nonneg _ (by decide)
  have b2 : (X + m / 2) % 26 < 26 := Int.emod_lt_of_pos _ (by decide)
  have c1 : 0 ≤ m % 2 := Int.emod_nonneg _ (by decide)
  have c2 : m % 2 < 2 := Int.emod_lt_of_pos _ (by decide)
  have d1 : 0 ≤ X % 62 := Int.emod_nonneg _ (by decide)
  have d2 : X % 62 < 62 := Int.emod_lt_of_pos _ (by decide)
  split
  · exact ⟨a1, a2⟩
  · split
    · omega
    · exact ⟨d1, d2⟩
theorem menu_ne {c n at' X : Int} (hn : 1 ≤ n) {i j : Nat} (hij : i < j) (hj : j < 6) {y : Str} (h1 : MenuW c n at' X i y) (h2 : MenuW c n at' X j y) : False := by
  obtain ⟨l1, s1⟩ := h1
  obtain ⟨l2, s2⟩ := h2
  rw [l1] at l2
  rw [s1] at s2
  have hi' := sgI_in c X i
  have hj' := sgI_in c X j
  have e : (sgI c X i).toNat = (sgI c X j).toNat := by
    have k1 : (sgI c X i).toNat < (cs W62).length := by rw [w62_len]; omega
    have k2 : (sgI c X j).toNat < (cs W62).length := by rw [w62_len]; omega
    rw [List.getElem?_eq_getElem k1, List.getElem?_eq_getElem k2] at s2
    exact (List.getElem_inj w62_nd).mp (Option.some.inj s2)
  unfold lnI at l2
  unfold sgI at e hi' hj'
  by_cases h0 : c % 3 = 0
  · rw [if_pos h0, if_pos h0] at e
    rw [if_pos h0] at hi' hj'
    omega
  · rw [if_neg h0, if_neg h0] at e
    rw [if_neg h0] at hi' hj'
    by_cases h2 : c % 3 = 2
    · rw [if_pos h2, if_pos h2] at e
      rw [if_pos h2] at hi' hj'
      omega
    · have h1 : c % 3 = 1 := by omega
      rw [if_pos h1] at l2
      omega
def spMenuF (K : PySem.W.Frag) : Sp := fun vs H Q _ => ∃ (a : Addr) (ns : List Int) (fr : Bool), vs = [.ref a, .bl fr] ∧ SqL K H a (ns.map V.int) ∧ ns.length ≤ 63 ∧ ∀ (ws : List Str) r H', Same H H' → H' r = some (.lst (ws.map V.str)) → H r = none → 3 ≤ ws.length → ws.length ≤ 6 → (∀ x ∈ ws, Wd x) → ws.Nodup → Q (.ref r) H'
def spRowF (K : PySem.W.Frag) : Sp := fun vs H Q _ => ∃ (m : Addr) (c k : Int) (fr : Bool) (ws : List Str), vs = [.ref m, .int c, .int k, .bl fr] ∧ SqL K H m (ws.map V.str) ∧ 1 ≤ ws.length ∧ ws.length ≤ 6 ∧ 0 ≤ k ∧ k ≤ 1000 ∧ ∀ (zs : List Str) r H', Same H H' → H' r = some (.tup (zs.map V.str)) → zs.length = k.toNat → (∀ z ∈ zs, z ∈ ws) → Q (.ref r) H'
theorem ix62 {i : Int} {H : Hp} {Q : VK} (h0 : 0 ≤ i) (h1 : i < 62) (q : ∀ d, good d = true → (cs W62)[i.toNat]? = some d → Q (.str (oneS d)) H) : rIxS (.str W62) (.int i) H Q := by
  have hk : i.toNat < W62.cps.toList.length := by rw [show W62.cps.toList.length = 62 by decide +kernel]; omega
  have ek : i = ((i.toNat : Nat) : Int) := by omega
  have hd := List.getElem?_eq_getElem hk
  have q2 := atI_nat hd
  rw [← ek] at q2
  exact ⟨_, _, _, rfl, rfl, (by decide +kernel), q2, q _ (List.all_eq_true.mp w62_good _ (List.getElem_mem hk)) hd⟩
section
variable {P : Program} {w : World} {K : PySem.W.Frag} {mg : Str → Option Value} {base : Heap} {f : Addr} {fd : FuncData}
theorem scMenuF : FnScope ["_law_script", "_law_free", "_law_some", "_law_cell_here", "_law_size", "_law_at", "_law_signs_here", "_law_words", "_law_k", "_law_word", "_law_j", "_law_sign"] ["_law_script", "_law_free"] (defScope s_l_menu) := ⟨rfl, rfl, rfl, by decide +kernel, rfl, by decide +kernel, by decide +kernel⟩
set_option maxHeartbeats 8000000 in
theorem ok_menuF (F : Fun K "_law_menu" "_law_menu" s_l_menu f fd) (T : Nm mg) (GC : Def P w K mg base CX0 1 "_law_cell" ["_law_script", "_law_k"] (spCell K)) (GS : Def P w K mg base CX0 1 "_law_signs" ["_law_cell_here", "_law_free"] spSigns) : FnOk P w K mg base CX0 2 f fd ["_law_script", "_law_free"] (spMenuF K) := by
  refine F.ok scMenuF (fun vs H Q E h => ?_) (fun cdv A outer s H vs Q E hr h => ?_)
  · obtain ⟨a, ns, fr, rfl, _⟩ := h
    rfl
  obtain ⟨a, ns, fr, rfl, hS, h63, q⟩ := h
  refine ⟨_, pss_cons (ps_set (i := 2) scMenuF.nd rfl (Or.inl rfl) pe_str)
    (pss_cons (ps_set (i := 3) scMenuF.nd rfl (Or.inl rfl) (pe_def GC hr (pa_cons (pv 0) (pa_cons pe_int pa_nil))))
    (pss_cons (ps_set (i := 4) scMenuF.nd rfl (Or.inl rfl) (pe_op op_add pe_int (pe_op op_mod (pv 3) pe_int)))
    (pss_cons (ps_set (i := 5) scMenuF.nd rfl (Or.inl rfl) (pe_op op_mod (pe_op op_fdiv (pv 3) pe_int) (pv 4)))
    (pss_cons (ps_set (i := 6) scMenuF.nd rfl (Or.inl rfl) (pe_def GS hr (pa_cons (pe_op op_fdiv (pv 3) pe_int) (pa_cons (pv 1) pa_nil))))
    (pss_cons (ps_set (i := 7) scMenuF.nd rfl (Or.inl rfl) (pe_lst pa_nil))
    (pss_cons (ps_for PassesOwn.never rfl (pi_range1 rfl T.range (pa_cons (pe_op op_add pe_int (pe_op op_mod (pe_def GC hr (pa_cons (pv 0) (pa_cons pe_int pa_nil))) pe_int)) pa_nil)) (pg_name (i := 8) scMenuF.nd rfl (Or.inl rfl))
      (pss_cons (ps_set (i := 9) scMenuF.nd rfl (Or.inl rfl) pe_str)
      (pss_cons (ps_for PassesOwn.never rfl (pi_range1 rfl T.range (pa_cons (pe_op op_add (pv 4) (pe_op op_mul (pv 8) (pe_callTy call_int1 rfl T.int PyProof.Rows.boot_int (pa_cons (pe_cmpR op_eq (pe_op op_mod (pv 3) pe_int) pe_int (nomark _)) pa_nil)))) pa_nil)) (pg_name (i := 10) scMenuF.nd rfl (Or.inl rfl))
        (pss_cons (ps_set (i := 11) scMenuF.nd rfl (Or.inl rfl) (pe_ix ix_str (pv 2) (pe_ix ix_list (pv 6) (pv 10) (fun _ _ => rfl)) (fun _ _ => rfl)))
        (pss_cons (ps_if (PW.pt (pw_and (pt_cmpR op_eq (pv 10) (pv 5) (nomark _)) (pw_and1 (pt_cmpR op_eq (pe_op op_mod (pv 3) pe_int) pe_int (nomark _)))))
          (pss_one (ps_set (i := 11) scMenuF.nd rfl (Or.inl rfl) (pe_ix ix_str (pv 2) (pe_op op_mod (pe_op op_add (pe_ix ix_list (pv 6) (pv 10) (fun _ _ => rfl)) (pv 8)) pe_int) (fun _ _ => rfl)))) pss_nil)
        (pss_cons (ps_if (PW.pt (pw_and (pt_cmpR op_eq (pv 10) (pv 5) (nomark _)) (pw_and1 (pt_cmpR op_eq (pe_op op_mod (pv 3) pe_int) pe_int (nomark _)))))
          (pss_one (ps_set (i := 11) scMenuF.nd rfl (Or.inl rfl) (pe_ix ix_str (pv 2) (pe_op op_add (pe_op op_mod (pe_op op_add (pe_ix ix_list (pv 6) (pv 10) (fun _ _ => rfl)) (pe_op op_fdiv (pv 8) pe_int)) pe_int) (pe_op op_mul (pe_op op_mod (pv 8) pe_int) pe_int)) (fun _ _ => rfl)))) pss_nil)
        (pss_one (ps_set (i := 9) scMenuF.nd rfl (Or.inl rfl) (pe_op op_add_str (pv 9) (pv 11))))))))
      (pss_one (ps_expr (pe_bm PySem.F.plainAttrs_list PySem.F.slot_list_append PySem.F.type_list_append mt_append (pv 7) (pa_cons (pv 9) pa_nil)))))))
    (pss_one (ps_ret (pv 7))))))))), ?_⟩
  have hb := big
  have hz : W62.length ≤ sizeLine := by decide +kernel
  refine ⟨_, rfl, a, ns, 0, rfl, hS, h63, by decide, by decide, ?_⟩
  generalize cellZ ns 0 = c
  have c0 : 0 ≤ c % 14 := Int.emod_nonneg _ (by decide)
  have c1 : c % 14 < 14 := Int.emod_lt_of_pos _ (by decide)
  refine ⟨_, rfl, _, _, rfl, rfl, (by show (0 : Int) < _; decide), _, _, rfl, rfl, ?_⟩
  dsimp only
  generalize hn : 1 + c % 14 = n
  have n0 : 1 ≤ n := by omega
  have n1 : n ≤ 14 := by omega
  clear c0 c1 hn
  refine ⟨_, rfl, _, _, rfl, rfl, ⟨by decide, by decide⟩, _, rfl, _, _, rfl, rfl, (by show (0 : Int) < n; omega), ?_⟩
  dsimp only
  have t0 : 0 ≤ c / 14 % n := Int.emod_nonneg _ (by omega)
  have t1 : c / 14 % n < n := Int.emod_lt_of_pos _ (by omega)
  generalize c / 14 % n = at' at t0 t1
  refine ⟨_, rfl, _, _, rfl, rfl, ⟨by decide, by decide⟩, _, rfl, _, fr, rfl, fun sg sr Hs gs _ hsr hsl hsg => ?_⟩
  refine ⟨(by show 0 ≤ sizeLine; decide), fun r hr1 => ?_⟩
  have g0 := same_new hr1 (.lst [])
  have hrH : H r = none := gs.free hr1
  refine ⟨_, rfl, a, ns, 1, rfl, (gs.trans g0).seq hS, h63, by decide, by decide, _, _, rfl, rfl, (by show (0 : Int) < _; decide), _, _, rfl, rfl, ?_⟩
  generalize cellZ ns 1 = c'
  have m0 : 0 ≤ c' % 4 := Int.emod_nonneg _ (by decide)
  have m1 : c' % 4 < 4 := Int.emod_lt_of_pos _ (by decide)
  refine ⟨3 + c' % 4, rfl, by omega, by omega, ?_⟩
  have sgat : ∀ j : Nat, j < 20 → ∃ x, atI (sg.map V.int) ((j : Nat) : Int) = some (.int x) ∧ sg[j]? = some x ∧ 0 ≤ x ∧ x < 62 := fun j hj => by
    have hj2 : j < sg.length := by omega
    have hm := hsg _ (List.getElem_mem hj2)
    exact ⟨sg[j], atI_nat (by rw [List.getElem?_map, List.getElem?_eq_getElem hj2] <;> rfl), List.getElem?_eq_getElem hj2, hm.1, hm.2⟩
  obtain ⟨X, _, hX, hX0, hX1⟩ := sgat at'.toNat (by omega)
  refine for_range (lo := 0) (n := (3 + c' % 4).toNat) (fun i σ' H' => Same Hs H' ∧ ∃ (ws : List Str) (u6 u7 u8 u9 : Option V), σ' = [some (.ref a), some (.bl fr), some (.str W62), some (.int c), some (.int n), some (.int at'), some (.ref sr), some (.ref r), u6, u7, u8, u9] ∧ H' r = some (.lst (ws.map V.str)) ∧ ws.length = i ∧ (∀ z ∈ ws, Wd z) ∧ ∀ m y, ws[m]? = some y → MenuW c n at' X m y) ?_ ?_ ?_
  · exact ⟨g0, [], _, _, _, _, rfl, upd_same, rfl, (fun _ h => nomatch h), fun m y e => by rw [List.getElem?_nil] at e; cases e⟩
  · rintro i σ' H' hi ⟨g, ws, u6, u7, u8, u9, rfl, hlr, hwl, hws, hMW⟩
    have hi6 : (i : Int) < 6 := by omega
    have hsr' := g _ _ hsr
    have hq : ∀ bq : Bool, ∃ N : Int, N = n + (0 + (i : Int)) * (if bq = true then 1 else 0) ∧ n ≤ N ∧ N ≤ 19 := fun bq => by
      cases bq with
      | false => exact ⟨_, rfl, by rw [if_neg (by decide)]; omega, by rw [if_neg (by decide)]; omega⟩
      | true => exact ⟨_, rfl, by rw [if_pos rfl]; omega, by rw [if_pos rfl]; omega⟩
    obtain ⟨N, eN, N0, N1⟩ := hq (decide (V.int (c % 3) = V.int 1))
    have eL : lnI c n i = N := by
      rw [eN]
      unfold lnI
      by_cases h1 : c % 3 = 1
      · rw [if_pos h1, if_pos (decide_eq_true (by rw [h1])), Int.zero_add]
      · rw [if_neg h1, if_neg (fun z => h1 (V.int.inj (of_decide_eq_true z))), Int.zero_add]
    refine ⟨_, rfl, _, rfl, _, rfl, _, _, rfl, rfl, (by show (0 : Int) < _; decide), rfl, .inr ⟨_, rfl, _, _, rfl, rfl, .inl ⟨by omega, by omega⟩, _, _, rfl, rfl, N, by rw [eN], by omega, by omega, ?_⟩⟩
    refine for_range (lo := 0) (n := N.toNat) (fun j σ2 H2 => H2 = H' ∧ ∃ (y : Str) (u8 u9 : Option V), σ2 = [some (.ref a), some (.bl fr), some (.str W62), some (.int c), some (.int n), some (.int at'), some (.ref sr), some (.ref r), some (.int (0 + (i : Int))), some (.str y), u8, u9] ∧ y.length = j ∧ allGood y ∧ (at' < (j : Int) → (cs y)[at'.toNat]? = (cs W62)[(sgI c X i).toNat]?)) ?_ ?_ ?_
    · exact ⟨rfl, ("" : Str), _, _, rfl, by decide +kernel, by unfold allGood; decide +kernel, fun z => by omega⟩
    · rintro j σ2 H2 hj ⟨rfl, y, v8, v9, rfl, hy, gy, ay⟩
      have hj20 : (j : Int) < 20 := by omega
      have ej : (0 : Int) + (j : Int) = ((j : Nat) : Int) := by omega
      obtain ⟨Y, hYa, hYg, hY0, hY1⟩ := sgat j (by omega)
      have eX : (0 : Int) + (j : Int) = at' → Y = X := fun z => by
        have : at'.toNat = j := by omega
        rw [this, hYg] at hX
        exact Option.some.inj hX
      rw [← ej] at hYa
      refine ⟨_, rfl, _, rfl, _, rfl, sr, _, _, _, rfl, rfl, SqL.of hsr', hYa, ?_⟩
      refine ix62 hY0 hY1 fun d gd ed => ?_
      refine gn_rdB ?_
      refine seqand_postC (decide (V.int (0 + (j : Int)) = V.int at')) (decide (V.int (c % 3) = V.int 0)) (fun σ H3 => H3 = H2 ∧ ∃ (d : Nat), good d = true ∧ σ = [some (.ref a), some (.bl fr), some (.str W62), some (.int c), some (.int n), some (.int at'), some (.ref sr), some (.ref r), some (.int (0 + (i : Int))), some (.str y), some (.int (0 + (j : Int))), some (.str (oneS d))] ∧ ((0 : Int) + (j : Int) = at' → (cs W62)[(if c % 3 = 0 then (X + i) % 62 else X % 62).toNat]? = some d)) (fun Q q => ⟨_, rfl, _, rfl, rfl, _, rfl, q⟩) (fun Q q => ⟨_, rfl, _, _, rfl, rfl, (by show (0 : Int) < _; decide), rfl, _, rfl, q⟩) (fun z1 z2 Nx hN => ?_) (fun z => ⟨rfl, d, gd, rfl, fun e => ?_⟩) ?_
      · have z1 := V.int.inj (of_decide_eq_true z1)
        have z2 := V.int.inj (of_decide_eq_true z2)
        refine ⟨_, rfl, _, rfl, _, rfl, sr, _, _, _, rfl, rfl, SqL.of hsr', hYa, _, rfl, _, _, rfl, rfl, _, _, rfl, rfl, (by show (0 : Int) < _; decide), ?_⟩
        refine ix62 (Int.emod_nonneg _ (by decide)) (Int.emod_lt_of_pos _ (by decide)) fun d gd ed => ?_
        refine hN _ _ ⟨rfl, d, gd, rfl, fun e => ?_⟩
        rw [if_pos z2, ← eX z1, ← ed, Int.zero_add]
      · have z2 : ¬ c % 3 = 0 := fun z2 => z ⟨decide_eq_true (by rw [e]), decide_eq_true (by rw [z2])⟩
        rw [if_neg z2, ← eX e, Int.emod_eq_of_lt hY0 hY1]
        exact ed
      rintro σ3 H3 ⟨rfl, d, gd, rfl, ed⟩
      refine seqand_postC (decide (V.int (0 + (j : Int)) = V.int at')) (decide (V.int (c % 3) = V.int 2)) (fun σ H4 => H4 = H3 ∧ ∃ (d : Nat), good d = true ∧ σ = [some (.ref a), some (.bl fr), some (.str W62), some (.int c), some (.int n), some (.int at'), some (.ref sr), some (.ref r), some (.int (0 + (i : Int))), some (.str y), some (.int (0 + (j : Int))), some (.str (oneS d))] ∧ ((0 : Int) + (j : Int) = at' → (cs W62)[(sgI c X i).toNat]? = some d)) (fun Q q => ⟨_, rfl, _, rfl, rfl, _, rfl, q⟩) (fun Q q => ⟨_, rfl, _, _, rfl, rfl, (by show (0 : Int) < _; decide), rfl, _, rfl, q⟩) (fun z1 z2 Nx hN => ?_) (fun z => ⟨rfl, d, gd, rfl, fun e => ?_⟩) ?_
      · have z1 := V.int.inj (of_decide_eq_true z1)
        have z2 := V.int.inj (of_decide_eq_true z2)
        refine ⟨_, rfl, _, rfl, _, rfl, sr, _, _, _, rfl, rfl, SqL.of hsr', hYa, _, rfl, _, _, rfl, rfl, ⟨by decide, by decide⟩, _, _, rfl, rfl, _, _, rfl, rfl, (by show (0 : Int) < _; decide), _, rfl, _, _, rfl, rfl, (by show (0 : Int) < _; decide), _, _, rfl, rfl, .inr ⟨by decide, by decide⟩, _, _, rfl, rfl, ?_⟩
        have r0 : 0 ≤ (Y + (0 + (i : Int)) / 2) % 26 := Int.emod_nonneg _ (by decide)
        have r1 : (Y + (0 + (i : Int)) / 2) % 26 < 26 := Int.emod_lt_of_pos _ (by decide)
        have r2 : 0 ≤ (0 + (i : Int)) % 2 := Int.emod_nonneg _ (by decide)
        have r3 : (0 + (i : Int)) % 2 < 2 := Int.emod_lt_of_pos _ (by decide)
        refine ix62 (i := (Y + (0 + (i : Int)) / 2) % 26 + (0 + (i : Int)) % 2 * 26) (by omega) (by omega) fun d gd ed => ?_
        refine hN _ _ ⟨rfl, d, gd, rfl, fun e => ?_⟩
        unfold sgI
        rw [if_neg (by omega), if_pos z2, ← eX z1, ← ed, Int.zero_add]
      · have z2 : ¬ c % 3 = 2 := fun z2 => z ⟨decide_eq_true (by rw [e]), decide_eq_true (by rw [z2])⟩
        unfold sgI
        rw [if_neg z2]
        exact ed e
      rintro σ4 H4 ⟨rfl, d, gd, rfl, ed⟩
      refine ⟨_, rfl, _, rfl, _, _, rfl, rfl, (by show y.length + 1 ≤ sizeLine; omega), rfl, y ++ oneS d, _, _, rfl, by rw [len_app, hy] <;> rfl, gy.app (by unfold allGood; simp [cs, gd]), fun z => ?_⟩
      rw [cs_app]
      by_cases e : (0 : Int) + (j : Int) = at'
      · have k : (cs y).length ≤ at'.toNat := by rw [cs_len, hy]; omega
        rw [List.getElem?_append_right k, ed e]
        have k2 : at'.toNat - (cs y).length = 0 := by rw [cs_len, hy]; omega
        rw [k2] <;> rfl
      · have lt : at' < (j : Int) := by omega
        rw [List.getElem?_append_left (by rw [cs_len, hy]; omega)]
        exact ay lt
    · rintro σ2 H2 ⟨rfl, y, v8, v9, rfl, hy, gy, ay⟩
      refine ⟨_, rfl, .inl ⟨rfl, _, SqL.of hlr⟩, _, rfl, r, _, _, rfl, rfl, hlr, by rw [List.length_map, hwl]; omega, ?_⟩
      refine ⟨keep_upd hr1 g _, ws ++ [y], _, _, _, _, rfl, by rw [upd_same, List.map_append] <;> rfl, by rw [List.length_append, hwl] <;> rfl, fun z hzm => ?_, fun m z e => ?_⟩
      · rcases List.mem_append.mp hzm with k | k
        · exact hws z k
        · rw [List.mem_singleton.mp k]
          exact ⟨by omega, by omega, gy⟩
      · by_cases hm : m < ws.length
        · rw [List.getElem?_append_left hm] at e
          exact hMW m z e
        · rw [List.getElem?_append_right (by omega)] at e
          have hm2 : m = i := by
            have : m - ws.length < 1 := by
              have := (List.getElem?_eq_some_iff.mp e).1
              simpa using this
            omega
          subst hm2
          rw [hwl, Nat.sub_self] at e
          cases e
          exact ⟨by rw [eL, hy], ay (by omega)⟩
  · rintro σ' H' ⟨g, ws, u6, u7, u8, u9, rfl, hlr, hwl, hws, hMW⟩
    refine ⟨_, rfl, q ws r H' (gs.trans g) hlr hrH (by omega) (by omega) hws ?_⟩
    refine List.pairwise_iff_getElem.mpr fun i j hi2 hj hij e2 => ?_
    exact menu_ne n0 hij (by omega) (hMW i _ (List.getElem?_eq_getElem hi2)) (by rw [e2]; exact hMW j _ (List.getElem?_eq_getElem hj))
theorem scRowF : FnScope ["_law_menu_here", "_law_cell_here", "_law_size", "_law_free", "_law_words", "_law_j", "_law_number_here"] ["_law_menu_here", "_law_cell_here", "_law_size", "_law_free"] (defScope s_l_row) := ⟨rfl, rfl, rfl, by decide +kernel, rfl, by decide +kernel, by decide +kernel⟩
set_option maxHeartbeats 4000000 in
theorem ok_rowF (F : Fun K "_law_row" "_law_row" s_l_row f fd) (T : Nm mg) : FnOk P w K mg base CX0 1 f fd ["_law_menu_here", "_law_cell_here", "_law_size", "_law_free"] (spRowF K) := by
  refine F.ok scRowF (fun vs H Q E h => ?_) (fun cdv A outer s H vs Q E hr h => ?_)
  · obtain ⟨m, c, k, fr, ws, rfl, _⟩ := h
    rfl
  obtain ⟨m, c, k, fr, ws, rfl, hS, hw, hw6, k0, k1, q⟩ := h
  refine ⟨_, pss_cons (ps_set (i := 4) scRowF.nd rfl (Or.inl rfl) (pe_tup pa_nil))
    (pss_cons (ps_for PassesOwn.never rfl (pi_range1 rfl T.range (pa_cons (pv 2) pa_nil)) (pg_name (i := 5) scRowF.nd rfl (Or.inl rfl))
      (pss_cons (ps_set (i := 6) scRowF.nd rfl (Or.inl rfl) (pv 1))
      (pss_cons (ps_if (pt_not (pt_val (pv 3)))
        (pss_cons (ps_set (i := 6) scRowF.nd rfl (Or.inl rfl) (pe_op op_mod (pe_op op_add (pe_op op_add (pe_op op_mul (pv 1) pe_int) (pe_op op_mul (pe_op op_mul (pv 5) (pv 5)) pe_int)) (pe_op op_mul (pv 5) pe_int)) pe_int))
        (pss_one (ps_set (i := 6) scRowF.nd rfl (Or.inl rfl) (pe_op op_mod (pe_op op_mul (pe_op op_mod (pe_op op_mul (pv 6) (pe_op op_add (pv 6) pe_int)) pe_int) pe_int) pe_int)))) pss_nil)
      (pss_cons (ps_set (i := 4) scRowF.nd rfl (Or.inl rfl) (pe_op op_catX (pv 4) (pe_tup (pa_cons (pe_ix ix_list (pv 0) (pe_op op_mod (pv 6) (pe_callB call_len_seq rfl T.len PySem.boot_len (pa_cons (pv 0) pa_nil))) (fun _ _ => rfl)) pa_nil))))
      (pss_one (ps_if (pt_val (pv 3)) (pss_one (ps_set (i := 1) scRowF.nd rfl (Or.inl rfl) (pe_op op_fdiv (pv 1) (pe_callB call_len_seq rfl T.len PySem.boot_len (pa_cons (pv 0) pa_nil))))) pss_nil))))))
    (pss_one (ps_ret (pv 4)))), ?_⟩
  have hb := big
  refine ⟨(by show 0 ≤ sizeLine; decide), fun p hp => ?_⟩
  refine ⟨_, rfl, k, rfl, by omega, by omega, ?_⟩
  refine for_range (lo := 0) (n := k.toNat) (fun i σ' H' => Same H H' ∧ ∃ (c : Int) (zs : List Str) (p : Addr) (u4 u5 : Option V), σ' = [some (.ref m), some (.int c), some (.int k), some (.bl fr), some (.ref p), u4, u5] ∧ H' p = some (.tup (zs.map V.str)) ∧ zs.length = i ∧ ∀ z ∈ zs, z ∈ ws) ?_ ?_ ?_
  · exact ⟨same_new hp _, c, [], p, none, none, rfl, upd_same, rfl, fun _ h => nomatch h⟩
  · rintro i σ' H' hi ⟨g, c, zs, p, u4, u5, rfl, hl, hzl, hz⟩
    have hi3 : (i : Int) < 1000 := by omega
    refine ⟨_, rfl, ?_⟩
    refine gn_rdB ?_
    refine seqif_post (!fr) (fun σ H2 => H2 = H' ∧ ∃ y : Int, σ = [some (.ref m), some (.int c), some (.int k), some (.bl fr), some (.ref p), some (.int (0 + (i : Int))), some (.int y)]) (fun Q q => ⟨_, rfl, _, rfl, q⟩) (fun _ Nx hN => ?_) (fun _ => ⟨rfl, c, rfl⟩) ?_
    · refine ⟨_, rfl, _, _, rfl, rfl, .inr ⟨by decide, by decide⟩, _, rfl, _, rfl, _, _, rfl, rfl, .inl ⟨by omega, by omega⟩, _, _, rfl, rfl, .inr ⟨by decide, by decide⟩, _, _, rfl, rfl, _, rfl, _, _, rfl, rfl, .inl ⟨by omega, by omega⟩, _, _, rfl, rfl, _, _, rfl, rfl, (by show (0 : Int) < _; decide), ?_⟩
      dsimp only
      have x0 : 0 ≤ (c * 48271 + (0 + (i : Int)) * (0 + (i : Int)) * 69621 + (0 + (i : Int)) * 40503) % 2147483647 := Int.emod_nonneg _ (by decide)
      have x1 : (c * 48271 + (0 + (i : Int)) * (0 + (i : Int)) * 69621 + (0 + (i : Int)) * 40503) % 2147483647 < 2147483647 := Int.emod_lt_of_pos _ (by decide)
      generalize (c * 48271 + (0 + (i : Int)) * (0 + (i : Int)) * 69621 + (0 + (i : Int)) * 40503) % 2147483647 = x at x0 x1
      refine ⟨_, rfl, _, rfl, _, _, rfl, rfl, _, _, rfl, rfl, .inl ⟨by omega, by omega⟩, _, _, rfl, rfl, (by show (0 : Int) < _; decide), _, _, rfl, rfl, .inr ⟨by decide, by decide⟩, _, _, rfl, rfl, (by show (0 : Int) < _; decide), ?_⟩
      exact hN _ _ ⟨rfl, _, rfl⟩
    rintro σ2 H2 ⟨rfl, y, rfl⟩
    have hlw : (ws.map V.str).length = ws.length := List.length_map _
    obtain ⟨v, hv, ev⟩ := at_str (ws := ws) (k := y % ((ws.length : Nat) : Int)) (Int.emod_nonneg _ (by omega)) (Int.emod_lt_of_pos _ (by omega))
    rw [← hlw] at ev
    refine ⟨_, rfl, _, rfl, _, rfl, _, rfl, m, _, rfl, .inl (g.seq hS), _, _, rfl, rfl, (by show (0 : Int) < _; omega), m, _, _, _, rfl, rfl, g.seq hS, ev, (by show 1 ≤ sizeLine; decide), fun p2 hp2 => ?_⟩
    have g2 := same_new hp2 (.tup [.str v])
    refine ⟨p, p2, _, _, rfl, rfl, g2 _ _ hl, upd_same, (by rw [List.length_map, hzl]; show i + 1 ≤ sizeLine; omega), fun p3 H3 g3 h3 => ?_⟩
    have g23 := (g.trans g2).trans g3
    have fin : ∀ c' : Int, Same H H3 ∧ ∃ (c : Int) (zs' : List Str) (p : Addr) (u4 u5 : Option V), [some (.ref m), some (.int c'), some (.int k), some (.bl fr), some (.ref p3), some (.int (0 + (i : Int))), some (.int y)] = [some (.ref m), some (.int c), some (.int k), some (.bl fr), some (.ref p), u4, u5] ∧ H3 p = some (.tup (zs'.map V.str)) ∧ zs'.length = i + 1 ∧ ∀ z ∈ zs', z ∈ ws := fun c' => by
      refine ⟨g23, c', zs ++ [v], p3, _, _, rfl, by rw [h3, List.map_append] <;> rfl, by rw [List.length_append, hzl] <;> rfl, fun z hzm => ?_⟩
      rcases List.mem_append.mp hzm with j | j
      · exact hz z j
      · rw [List.mem_singleton.mp j]; exact hv
    refine gn_rdB ?_
    refine oneif_post fr (fun Q q => ⟨_, rfl, _, rfl, q⟩) (fun _ => ?_) (fun _ => fin c)
    refine ⟨_, rfl, _, rfl, m, _, rfl, .inl (g23.seq hS), _, _, rfl, rfl, ⟨by omega, by omega⟩, fin _⟩
  · rintro σ' H' ⟨g, c, zs, p, u4, u5, rfl, hl, hzl, hz⟩
    exact ⟨_, rfl, q zs p H' g hl hzl hz⟩
end
end D
namespace D
open PySem L2
theorem while_postA {tc : TT} {tb : TS} {D : Ends} {σ : St} {H : Hp} (W : Nat → St → Hp → Prop) (Post : St → Hp → Prop) (h0 : ∃ m, W m σ H)
    (hs : ∀ R : St → Hp → Prop, (∀ σ H, Post σ H → R σ H) → ∀ m σ H, W m σ H → tc σ H fun b H1 => if b = true then ∃ N : St → Hp → Prop, (∀ σ' H', N σ' H' → ∃ m', m' < m ∧ W m' σ' H') ∧ tb { D with nx := N, ct := N, bk := D.nx } σ H1 else R σ H1)
    (hp : ∀ σ H, Post σ H → D.nx σ H) : tWhile tc tb D σ H := ⟨W, h0, fun m σ H hw => hs D.nx hp m σ H hw⟩
theorem cut_mid (x : Str) (i j : Nat) : cutC x (some (i : Int)) (some (j : Int)) = ((cs x).drop i).take (j - i) := by
  unfold cutC
  rw [HT.sIx_nat, HT.sIx_nat]
  show ((cs x).drop (min i x.length)).take (min j x.length - min i x.length) = _
  by_cases h : i ≤ x.length
  · rw [Nat.min_eq_left h]
    by_cases h2 : j ≤ x.length
    · rw [Nat.min_eq_left h2]
    · rw [Nat.min_eq_right (by omega), List.take_of_length_le (by rw [List.length_drop, cs_len]; exact Nat.le_refl _), List.take_of_length_le (by rw [List.length_drop, cs_len]; omega)]
  · rw [Nat.min_eq_right (show x.length ≤ i by omega), List.drop_of_length_le (by rw [cs_len]; exact Nat.le_refl _), List.drop_of_length_le (show (cs x).length ≤ i by rw [cs_len]; omega), List.take_nil, List.take_nil]
theorem paired_snoc {α β : Type} {F : α → β → Prop} {a : α} {b : β} : ∀ {l : List α} {m : List β}, Paired F l m → F a b → Paired F (l ++ [a]) (m ++ [b])
  | _, _, .nil, h => .cons h .nil
  | _, _, .cons x r, h => .cons x (paired_snoc r h)
theorem empty_cs : cs ("" : Str) = [] := by decide +kernel
def bendR (last : Str) (b : Str × Str) (o : Str) : Prop := ∃ pre : Str, last = pre ++ b.1 ∧ o = pre ++ b.2
def BdsOk (ws : List Str) (last : Str) (bs : List (Str × Str)) : Prop := ∃ os : List Str, Paired (bendR last) bs os ∧ (last :: os).Nodup ∧ ∀ o ∈ os, o ∈ ws
theorem mod_ne {i p q L : Nat} (hi : i < L) (hpq : p < q) (hq : q < L) : (i + p) % L ≠ (i + q) % L := by
  have e : ∀ k, k < L → (i + k) % L = if i + k < L then i + k else i + k - L := fun k hk => by
    by_cases h : i + k < L
    · rw [if_pos h, Nat.mod_eq_of_lt h]
    · rw [if_neg h, Nat.mod_eq_sub_mod (by omega), Nat.mod_eq_of_lt (by omega)]
  rw [e p (by omega), e q hq]
  split <;> split <;> omega
theorem others_nd {ws : List Str} {os : List Str} {i : Nat} (hw : ws.Nodup) (hi : i < ws.length) (hl : os.length < ws.length) (ho : ∀ m, m < os.length → os[m]? = ws[(i + 1 + m) % ws.length]?) : (ws[i] :: os).Nodup := by
  have key : ∀ p (hp : p < (ws[i] :: os).length), (ws[i] :: os)[p]? = ws[(i + p) % ws.length]? := fun p hp => by
    cases p with
    | zero =>
      rw [Nat.add_zero, Nat.mod_eq_of_lt hi, List.getElem?_eq_getElem hi] <;> rfl
    | succ p =>
      rw [List.getElem?_cons_succ, ho p (by rw [List.length_cons] at hp; omega)]
      congr 2
      omega
  refine List.pairwise_iff_getElem.mpr fun p q hp hq hpq e => ?_
  have e1 := key p hp
  have e2 := key q hq
  rw [List.getElem?_eq_getElem hp] at e1
  rw [List.getElem?_eq_getElem hq, ← e, e1] at e2
  rw [List.length_cons] at hq
  have k1 : (i + p) % ws.length < ws.length := Nat.mod_lt _ (by omega)
  have k2 : (i + q) % ws.length < ws.length := Nat.mod_lt _ (by omega)
  rw [List.getElem?_eq_getElem k1, List.getElem?_eq_getElem k2] at e2
  exact mod_ne hi hpq (by omega) ((List.getElem_inj hw).mp (Option.some.inj e2))
def spBends (K : PySem.W.Frag) : Sp := fun vs H Q _ => ∃ (me : Addr) (last : Str) (c : Int) (ws : List Str), vs = [.ref me, .str last, .int c] ∧ H me = some (.lst (ws.map V.str)) ∧ ws.Nodup ∧ (∀ x ∈ ws, Wd x) ∧ 3 ≤ ws.length ∧ ws.length ≤ 6 ∧ last ∈ ws ∧
  ∀ (bs : List (Str × Str)) (v : V) H', Same H H' → bR H' bs v → bs.length ≤ 5 → BdsOk ws last bs → Q v H'
section
variable {P : Program} {w : World} {K : PySem.W.Frag} {mg : Str → Option Value} {base : Heap} {f : Addr} {fd : FuncData}
theorem scBendsA : FnScope ["_law_menu_here", "_law_last", "_law_cell_here", "_law_bends_here", "_law_j", "_law_other", "_law_same"] ["_law_menu_here", "_law_last", "_law_cell_here"] (defScope s_l_bends) := ⟨rfl, rfl, rfl, by decide +kernel, rfl, by decide +kernel, by decide +kernel⟩
set_option maxHeartbeats 8000000 in
theorem ok_bendsA (F : Fun K "_law_bends" "_law_bends" s_l_bends f fd) (T : Nm mg) : FnOk P w K mg base CX0 1 f fd ["_law_menu_here", "_law_last", "_law_cell_here"] (spBends K) := by
  refine F.ok scBendsA (fun vs H Q E h => ?_) (fun cdv A outer s H vs Q E hr h => ?_)
  · obtain ⟨me, last, c, ws, rfl, _⟩ := h
    rfl
  obtain ⟨me, last, c, ws, rfl, hM, hnd, hwd, w3, w6, hlast, q⟩ := h
  refine ⟨_, pss_cons (ps_set (i := 3) scBendsA.nd rfl (Or.inl rfl) (pe_tup pa_nil))
    (pss_cons (ps_for PassesOwn.never rfl (pi_range1 rfl T.range (pa_cons (pe_callB (call_min2 rfl) rfl T.mn PyProof.Rows.boot_min (pa_cons (pe_ix ix_list (pe_lst (pa_cons pe_int (pa_cons pe_int (pa_cons pe_int (pa_cons pe_int pa_nil))))) (pe_op op_mod (pv 2) pe_int) (fun _ _ => rfl)) (pa_cons (pe_op op_sub (pe_callB call_len_seq rfl T.len PySem.boot_len (pa_cons (pv 0) pa_nil)) pe_int) pa_nil))) pa_nil)) (pg_name (i := 4) scBendsA.nd rfl (Or.inl rfl))
      (pss_cons (ps_set (i := 5) scBendsA.nd rfl (Or.inl rfl) (pe_ix ix_list (pv 0) (pe_op op_mod (pe_op op_add (pe_op op_add (pe_bm PySem.F.plainAttrs_list PySem.F.slot_list_index PySem.F.type_list_index mt_lindex (pv 0) (pa_cons (pv 1) pa_nil)) pe_int) (pv 4)) (pe_callB call_len_seq rfl T.len PySem.boot_len (pa_cons (pv 0) pa_nil))) (fun _ _ => rfl)))
      (pss_cons (ps_set (i := 6) scBendsA.nd rfl (Or.inl rfl) pe_int)
      (pss_cons (ps_while PassesOwn.never (PW.pt (pw_and (pt_cmpR op_eq (pe_op op_mod (pe_op op_fdiv (pv 2) pe_int) pe_int) pe_int (nomark _)) (pw_and (pt_cmpR op_ne (pe_slice sl_str (pv 1) (po_some (pv 6)) (po_some (pe_op op_add (pv 6) pe_int))) pe_str (nomark _)) (pw_and1 (pt_cmpR op_eq (pe_slice sl_str (pv 1) (po_some (pv 6)) (po_some (pe_op op_add (pv 6) pe_int))) (pe_slice sl_str (pv 5) (po_some (pv 6)) (po_some (pe_op op_add (pv 6) pe_int))) (nomark _))))))
        (pss_one (ps_set (i := 6) scBendsA.nd rfl (Or.inl rfl) (pe_op op_add (pv 6) pe_int))))
      (pss_one (ps_set (i := 3) scBendsA.nd rfl (Or.inl rfl) (pe_op op_catX (pv 3) (pe_tup (pa_cons (pe_tup (pa_cons (pe_slice sl_str (pv 1) (po_some (pv 6)) po_none) (pa_cons (pe_slice sl_str (pv 5) (po_some (pv 6)) po_none) pa_nil))) pa_nil)))))))))
    (pss_one (ps_ret (pv 3)))), ?_⟩
  have hb := big
  obtain ⟨L1, L20, Lg⟩ := hwd last hlast
  have hlw : (ws.map V.str).length = ws.length := List.length_map _
  obtain ⟨i0, hi0, ei0⟩ := List.getElem_of_mem hlast
  refine ⟨(by show 0 ≤ sizeLine; decide), fun b0 hb0 => ?_⟩
  have g0 := same_new hb0 (.tup [])
  have e0 : upd H b0 (.tup []) b0 = some (.tup []) := upd_same
  generalize upd H b0 (.tup []) = H0 at g0 e0 ⊢
  refine ⟨(by show 4 ≤ sizeLine; decide), fun p1 hp1 => ?_⟩
  have g1 := same_new hp1 (.lst [.int 0, .int 1, .int 2, .int 5])
  have y0 : 0 ≤ c % 4 := Int.emod_nonneg _ (by decide)
  have y1 : c % 4 < 4 := Int.emod_lt_of_pos _ (by decide)
  obtain ⟨a, ha, ea⟩ := at_int (is := [0, 1, 2, 5]) (k := c % 4) y0 y1
  have a0 : 0 ≤ a ∧ a ≤ 5 := by
    simp only [List.mem_cons, List.not_mem_nil, or_false] at ha
    omega
  have g01 := g0.trans g1
  refine ⟨_, rfl, _, _, rfl, rfl, (by show (0 : Int) < _; decide), p1, _, _, _, rfl, rfl, SqL.of upd_same, ea, _, rfl, me, _, rfl, .inl (SqL.of (g01 _ _ hM)), _, _, rfl, rfl, _, _, rfl, ?_⟩
  have em : ∃ k : Int, k = (if ((((ws.map V.str).length : Nat) : Int) - 1) < a then ((((ws.map V.str).length : Nat) : Int) - 1) else a) ∧ 0 ≤ k ∧ k ≤ 5 ∧ k < (ws.length : Int) := by
    refine ⟨_, rfl, ?_, ?_, ?_⟩ <;> split <;> omega
  obtain ⟨k, ek, k0, k5, kL⟩ := em
  refine ⟨k, by rw [ek], by omega, by omega, ?_⟩
  generalize upd H0 p1 (.lst [.int 0, .int 1, .int 2, .int 5]) = H1 at g1 g01
  refine for_range (lo := 0) (n := k.toNat) (fun j σ' H' => Same H1 H' ∧ ∃ (b : Addr) (bs : List (Str × Str)) (os : List Str) (xs : List V) (u4 u5 u6 : Option V), σ' = [some (.ref me), some (.str last), some (.int c), some (.ref b), u4, u5, u6] ∧ H' b = some (.tup xs) ∧ Paired (cpR H') bs xs ∧ Paired (bendR last) bs os ∧ os.length = j ∧ (∀ m, m < os.length → os[m]? = ws[(i0 + 1 + m) % ws.length]?)) ?_ ?_ ?_
  · exact ⟨Same.refl _, b0, [], [], [], _, _, _, rfl, g1 _ _ e0, .nil, .nil, rfl, fun m h => absurd h (Nat.not_lt_zero _)⟩
  · rintro j σ' H' hj ⟨g, b, bs, os, xs, u4, u5, u6, rfl, hb1, hbs, hos, hol, ho⟩
    have hM' := g _ _ (g01 _ _ hM)
    have kL2 : (i0 + 1 + j) % ws.length < ws.length := Nat.mod_lt _ (by omega)
    have eix : ((i0 : Nat) : Int) + 1 + (0 + (j : Int)) = ((i0 + 1 + j : Nat) : Int) := by omega
    have eat : atI (ws.map V.str) ((((i0 : Nat) : Int) + 1 + (0 + (j : Int))) % (((ws.map V.str).length : Nat) : Int)) = some (.str ws[(i0 + 1 + j) % ws.length]) := by
      rw [hlw, eix, ← Int.natCast_emod]
      exact atI_nat (by rw [List.getElem?_map, List.getElem?_eq_getElem kL2] <;> rfl)
    have hoth := List.getElem_mem kL2
    generalize eo : ws[(i0 + 1 + j) % ws.length] = other at eat hoth
    obtain ⟨O1, O20, Og⟩ := hwd other hoth
    refine ⟨_, rfl, _, rfl, .inl ⟨rfl, _, SqL.of hM'⟩, _, rfl, me, ws, last, i0, rfl, rfl, hM', by rw [List.getElem?_eq_getElem hi0, ei0], fun m hm e => ?_, _, _, rfl, rfl, _, rfl, _, _, rfl, rfl, _, rfl, me, _, rfl, .inl (SqL.of hM'), _, _, rfl, rfl, (by show (0 : Int) < _; omega), me, _, _, _, rfl, rfl, SqL.of hM', eat, ?_⟩
    · have k1 : m < ws.length := by omega
      rw [List.getElem?_eq_getElem k1, ← ei0] at e
      have := (List.getElem_inj hnd).mp (Option.some.inj e)
      omega
    refine while_postA (fun m σ2 H2 => H2 = H' ∧ ∃ sm : Nat, σ2 = [some (.ref me), some (.str last), some (.int c), some (.ref b), some (.int (0 + (j : Int))), some (.str other), some (.int (sm : Nat))] ∧ m = last.length - sm ∧ sm ≤ last.length ∧ (cs last).take sm = (cs other).take sm ∧ sm ≤ other.length) (fun σ2 H2 => H2 = H' ∧ ∃ sm : Nat, σ2 = [some (.ref me), some (.str last), some (.int c), some (.ref b), some (.int (0 + (j : Int))), some (.str other), some (.int (sm : Nat))] ∧ sm ≤ last.length ∧ (cs last).take sm = (cs other).take sm ∧ sm ≤ other.length) ⟨_, rfl, 0, rfl, rfl, Nat.zero_le _, rfl, Nat.zero_le _⟩ ?_ ?_
    · rintro R hR m σ2 H2 ⟨rfl, sm, rfl, rfl, hs1, hs2, hs3⟩
      have out := hR _ _ ⟨rfl, sm, rfl, hs1, hs2, hs3⟩
      have e1 : ((sm : Nat) : Int) + 1 = ((sm + 1 : Nat) : Int) := rfl
      refine ⟨_, rfl, _, _, rfl, rfl, ⟨by decide, by decide⟩, _, _, rfl, rfl, (by show (0 : Int) < _; decide), rfl, _, rfl, ?_⟩
      refine ite2 (fun z => ?_) (fun z => iteF out)
      refine ⟨_, rfl, _, rfl, _, rfl, _, rfl, _, _, rfl, rfl, _, rfl, last, rfl, by omega, rfl, _, rfl, ?_⟩
      have cl : cutC last (some ((sm : Nat) : Int)) (some (((sm : Nat) : Int) + 1)) = ((cs last).drop sm).take 1 := by rw [e1, cut_mid]; congr 1; omega
      have co : cutC other (some ((sm : Nat) : Int)) (some (((sm : Nat) : Int) + 1)) = ((cs other).drop sm).take 1 := by rw [e1, cut_mid]; congr 1; omega
      refine ite2 (fun z2 => ?_) (fun z2 => iteF out)
      refine ⟨_, rfl, _, rfl, _, rfl, _, rfl, _, _, rfl, rfl, _, rfl, last, rfl, by omega, _, rfl, _, rfl, _, rfl, _, rfl, _, _, rfl, rfl, _, rfl, other, rfl, by omega, rfl, _, rfl, ?_⟩
      refine ite2 (fun z3 => ?_) (fun z3 => out)
      have z2 : ¬ V.str ⟨(cutC last (some ((sm : Nat) : Int)) (some (((sm : Nat) : Int) + 1))).toArray⟩ = V.str "" := fun y => by
        rw [decide_eq_true y] at z2
        cases z2
      have z3 := congrArg cs (V.str.inj (of_decide_eq_true z3))
      rw [cs_mk, cs_mk, cl, co] at z3
      rw [cl] at z2
      have lt : sm < last.length := by
        refine Nat.lt_of_not_le fun le => z2 ?_
        rw [List.drop_of_length_le (by rw [cs_len]; exact le)]
        exact congrArg V.str (str_ext (by rw [cs_mk, empty_cs] <;> rfl))
      have lt2 : sm < other.length := by
        refine Nat.lt_of_not_le fun le => ?_
        rw [List.drop_of_length_le (by rw [cs_len]; exact le) (l := cs other), List.drop_eq_getElem_cons (by rw [cs_len]; exact lt)] at z3
        cases z3
      refine ⟨_, fun σ' H' p => p, ⟨_, rfl, _, _, rfl, rfl, ?_⟩⟩
      refine ⟨last.length - (sm + 1), by omega, rfl, sm + 1, rfl, rfl, by omega, ?_, by omega⟩
      rw [List.drop_eq_getElem_cons (l := cs last) (by rw [cs_len]; exact lt), List.drop_eq_getElem_cons (l := cs other) (by rw [cs_len]; exact lt2)] at z3
      rw [List.take_add_one, List.take_add_one, hs2, List.getElem?_eq_getElem (by rw [cs_len]; exact lt), List.getElem?_eq_getElem (by rw [cs_len]; exact lt2)]
      have z4 := (List.cons.inj z3).1
      rw [z4]
    · rintro σ2 H2 ⟨rfl, sm, rfl, hs1, hs2, hs3⟩
      have cl : cutC last (some ((sm : Nat) : Int)) none = (cs last).drop sm := by rw [cut_from last (by omega)] <;> rfl
      have co : cutC other (some ((sm : Nat) : Int)) none = (cs other).drop sm := by rw [cut_from other (by omega)] <;> rfl
      refine ⟨_, rfl, _, rfl, _, rfl, _, rfl, np_rdB ?_⟩
      refine ⟨last, rfl, by omega, _, rfl, _, rfl, _, rfl, np_rdB ?_⟩
      refine ⟨other, rfl, by omega, (by show 2 ≤ sizeLine; decide), fun p2 hp2 => ?_⟩
      have g2 := same_new hp2 (.tup [.str ⟨(cutC last (some ((sm : Nat) : Int)) none).toArray⟩, .str ⟨(cutC other (some ((sm : Nat) : Int)) none).toArray⟩])
      refine ⟨(by show 1 ≤ sizeLine; decide), fun p3 hp3 => ?_⟩
      have g3 := same_new hp3 (.tup [.ref p2])
      have xl := Paired.length hbs
      have ol := Paired.length hos
      refine ⟨b, p3, _, _, rfl, rfl, g3 _ _ (g2 _ _ hb1), upd_same, (by show xs.length + 1 ≤ sizeLine; omega), fun p4 H4 g4 h4 => ?_⟩
      have g24 := (g2.trans g3).trans g4
      have hp2' := g4 _ _ (g3 _ _ (upd_same (H := H2) (a := p2) (o := .tup [.str ⟨(cutC last (some ((sm : Nat) : Int)) none).toArray⟩, .str ⟨(cutC other (some ((sm : Nat) : Int)) none).toArray⟩])))
      refine ⟨g.trans g24, p4, bs ++ [(⟨(cutC last (some ((sm : Nat) : Int)) none).toArray⟩, ⟨(cutC other (some ((sm : Nat) : Int)) none).toArray⟩)], os ++ [other], _, _, _, _, rfl, h4, ?_, ?_, by rw [List.length_append, hol] <;> rfl, fun m hm => ?_⟩
      · exact paired_snoc (Paired.mapP hbs fun _ _ z => z.mono g24.t) ⟨p2, rfl, hp2'⟩
      · refine paired_snoc hos ⟨⟨((cs last).take sm).toArray⟩, str_ext ?_, str_ext ?_⟩
        · rw [cs_app, cs_mk, cs_mk, cl, List.take_append_drop]
        · rw [cs_app, cs_mk, cs_mk, co, hs2, List.take_append_drop]
      · by_cases hm2 : m < os.length
        · rw [List.getElem?_append_left hm2]
          exact ho m hm2
        · have em : m = os.length := by rw [List.length_append] at hm; simp at hm; omega
          subst em
          rw [List.getElem?_append_right (Nat.le_refl _), Nat.sub_self, hol, List.getElem?_eq_getElem kL2, eo] <;> rfl
  · rintro σ' H' ⟨g, b, bs, os, xs, u4, u5, u6, rfl, hb1, hbs, hos, hol, ho⟩
    have bl := Paired.length hos
    refine ⟨_, rfl, q bs (.ref b) H' (g01.trans g) ⟨b, xs, rfl, hb1, hbs⟩ (by omega) ⟨os, hos, ?_, fun o hoM => ?_⟩⟩
    · rw [← ei0]
      exact others_nd hnd hi0 (by omega) ho
    · obtain ⟨m, hm, rfl⟩ := List.getElem_of_mem hoM
      have e := ho m hm
      rw [List.getElem?_eq_getElem hm] at e
      exact List.mem_of_getElem? e.symm
end
end D
namespace D
open PySem L2
theorem snoc_of {α : Type} {l : List α} (h : l ≠ []) : ∃ l' x, l = l' ++ [x] := by
  rcases List.eq_nil_or_concat l with z | ⟨l', x, z⟩
  · exact absurd z h
  · exact ⟨l', x, by rw [z, List.concat_eq_append]⟩
def scopes4 : List Str := ["all", "part", "here", "else"]
def TlOk (ws : List Str) (sc : Str) (ph : List Str) (bs : List (Str × Str)) (ms : List Str) : Prop :=
  sc ∈ scopes4 ∧ ph.length ≤ 4 ∧ (∀ z ∈ ph, z ∈ ws) ∧ bs.length ≤ 5 ∧ (∃ p0 last, ph = p0 ++ [last] ∧ BdsOk ws last bs) ∧ 1 ≤ ms.length ∧ ms.length ≤ 4 ∧ ∀ z ∈ ms, z ∈ ws
structure MnOk (ws : List Str) : Prop where
  nd : ws.Nodup
  wd : ∀ x ∈ ws, Wd x
  l3 : 3 ≤ ws.length
  l6 : ws.length ≤ 6
def spToldF : Sp := fun vs H Q _ => ∃ (me : Addr) (n c mr : Int) (fr : Bool) (ws : List Str), vs = [.ref me, .int n, .int c, .int mr, .bl fr] ∧ H me = some (.lst (ws.map V.str)) ∧ MnOk ws ∧
  ∀ sc ph bs ms v H', Same H H' → tellR H' n sc ph bs ms v → TlOk ws sc ph bs ms → Q v H'
def numA (ns : List Int) (k : Int) : Int := if cellZ ns 3 % 3 = 0 then k + 1 else if cellZ ns 3 % 3 = 1 then (k + 1) * (1 + cellZ ns 3 / 3 % 10 ^ (40 : Int).toNat) else (100 - k) * (1 + cellZ ns 3 / 3 % 10 ^ (40 : Int).toNat)
def spNumA (K : PySem.W.Frag) : Sp := fun vs H Q _ => ∃ (a : Addr) (ns : List Int) (k : Int), vs = [.ref a, .int k] ∧ SqL K H a (ns.map V.int) ∧ ns.length ≤ 63 ∧ 0 ≤ k ∧ k ≤ 60 ∧ Q (.int (numA ns k)) H
theorem numA_pos (ns : List Int) {k : Int} (h0 : 0 ≤ k) (h1 : k ≤ 60) : 0 < numA ns k := by
  unfold numA
  have s0 : 0 ≤ cellZ ns 3 / 3 % 10 ^ (40 : Int).toNat := Int.emod_nonneg _ (by decide)
  generalize cellZ ns 3 / 3 % 10 ^ (40 : Int).toNat = s at s0
  split
  · omega
  · split
    · exact Int.mul_pos (by omega) (by omega)
    · exact Int.mul_pos (by omega) (by omega)
theorem numA_inj (ns : List Int) {i j : Int} (e : numA ns i = numA ns j) : i = j := by
  unfold numA at e
  have s0 : 0 ≤ cellZ ns 3 / 3 % 10 ^ (40 : Int).toNat := Int.emod_nonneg _ (by decide)
  generalize cellZ ns 3 / 3 % 10 ^ (40 : Int).toNat = s at s0 e
  split at e
  · omega
  · split at e
    · have := Int.eq_of_mul_eq_mul_right (by omega) e
      omega
    · have := Int.eq_of_mul_eq_mul_right (by omega) e
      omega
section
variable {P : Program} {w : World} {K : PySem.W.Frag} {mg : Str → Option Value} {base : Heap} {f : Addr} {fd : FuncData}
theorem scNumA : FnScope ["_law_script", "_law_k", "_law_cell_here", "_law_step"] ["_law_script", "_law_k"] (defScope s_l_number) := ⟨rfl, rfl, rfl, by decide +kernel, rfl, by decide +kernel, by decide +kernel⟩
theorem ok_numA (F : Fun K "_law_number" "_law_number" s_l_number f fd) (GC : Def P w K mg base CX0 1 "_law_cell" ["_law_script", "_law_k"] (spCell K)) : FnOk P w K mg base CX0 2 f fd ["_law_script", "_law_k"] (spNumA K) := by
  refine F.ok scNumA (fun vs H Q E h => ?_) (fun cdv A outer s H vs Q E hr h => ?_)
  · obtain ⟨a, ns, k, rfl, _⟩ := h
    rfl
  obtain ⟨a, ns, k, rfl, hS, h63, k0, k1, q⟩ := h
  refine ⟨_, pss_cons (ps_set (i := 2) scNumA.nd rfl (Or.inl rfl) (pe_def GC hr (pa_cons (pv 0) (pa_cons pe_int pa_nil))))
    (pss_cons (ps_set (i := 3) scNumA.nd rfl (Or.inl rfl) (pe_op op_add pe_int (pe_op op_mod (pe_op op_fdiv (pv 2) pe_int) (pe_op op_pow pe_int pe_int))))
    (pss_cons (ps_if (pt_cmpR op_eq (pe_op op_mod (pv 2) pe_int) pe_int (nomark _)) (pss_one (ps_ret (pe_op op_add (pv 1) pe_int))) pss_nil)
    (pss_cons (ps_if (pt_cmpR op_eq (pe_op op_mod (pv 2) pe_int) pe_int (nomark _)) (pss_one (ps_ret (pe_op op_mul (pe_op op_add (pv 1) pe_int) (pv 3)))) pss_nil)
    (pss_one (ps_ret (pe_op op_mul (pe_op op_sub pe_int (pv 1)) (pv 3))))))), ?_⟩
  refine ⟨_, rfl, a, ns, 3, rfl, hS, h63, by decide, by decide, ?_⟩
  refine ⟨_, rfl, _, _, rfl, rfl, ⟨by decide, by decide⟩, _, _, rfl, rfl, ⟨by decide, by decide, by decide⟩, _, _, rfl, rfl, (by show (0 : Int) < 10 ^ (40 : Int).toNat; decide), _, _, rfl, rfl, ?_⟩
  refine ⟨_, rfl, _, _, rfl, rfl, (by show (0 : Int) < _; decide), rfl, _, rfl, ?_⟩
  have ev : ∀ x y : Int, decide (V.int x = V.int y) = true ↔ x = y := fun x y => ⟨fun h => V.int.inj (of_decide_eq_true h), fun h => decide_eq_true (by rw [h])⟩
  refine ite2 (fun z => ?_) (fun z => ?_)
  · have z' := (ev _ _).mp z
    refine ⟨_, rfl, _, _, rfl, rfl, ?_⟩
    rw [show numA ns k = k + 1 from if_pos z'] at q
    exact q
  · have z' : ¬ cellZ ns 3 % 3 = 0 := fun y => z ((ev _ _).mpr y)
    refine ⟨_, rfl, _, _, rfl, rfl, (by show (0 : Int) < _; decide), rfl, _, rfl, ?_⟩
    refine ite2 (fun y => ?_) (fun y => ?_)
    · have y' := (ev _ _).mp y
      refine ⟨_, rfl, _, _, rfl, rfl, _, rfl, _, _, rfl, rfl, .inl ⟨by omega, by omega⟩, ?_⟩
      have e : numA ns k = (k + 1) * (1 + cellZ ns 3 / 3 % 10 ^ (40 : Int).toNat) := by unfold numA; rw [if_neg z', if_pos y']
      rw [e] at q
      exact q
    · have y' : ¬ cellZ ns 3 % 3 = 1 := fun x => y ((ev _ _).mpr x)
      refine ⟨_, rfl, _, _, rfl, rfl, _, rfl, _, _, rfl, rfl, .inl ⟨by omega, by omega⟩, ?_⟩
      have e : numA ns k = (100 - k) * (1 + cellZ ns 3 / 3 % 10 ^ (40 : Int).toNat) := by unfold numA; rw [if_neg z', if_neg y']
      rw [e] at q
      exact q
theorem scToldF : FnScope ["_law_menu_here", "_law_number_here", "_law_cell_here", "_law_more", "_law_free", "_law_scope", "_law_phrase", "_law_bends_here", "_law_rest", "_law_word"] ["_law_menu_here", "_law_number_here", "_law_cell_here", "_law_more", "_law_free"] (defScope s_l_told) := ⟨rfl, rfl, rfl, by decide +kernel, rfl, by decide +kernel, by decide +kernel⟩
set_option maxHeartbeats 8000000 in
theorem ok_toldF (F : Fun K "_law_told" "_law_told" s_l_told f fd) (T : Nm mg) (GR : Def P w K mg base CX0 1 "_law_row" ["_law_menu_here", "_law_cell_here", "_law_size", "_law_free"] (spRowF K)) (GB : Def P w K mg base CX0 1 "_law_bends" ["_law_menu_here", "_law_last", "_law_cell_here"] (spBends K)) : FnOk P w K mg base CX0 2 f fd ["_law_menu_here", "_law_number_here", "_law_cell_here", "_law_more", "_law_free"] spToldF := by
  refine F.ok scToldF (fun vs H Q E h => ?_) (fun cdv A outer s H vs Q E hr h => ?_)
  · obtain ⟨me, n, c, mr, fr, ws, rfl, _⟩ := h
    rfl
  obtain ⟨me, n, c, mr, fr, ws, rfl, hM, hmn, q⟩ := h
  refine ⟨_, pss_cons (ps_set (i := 5) scToldF.nd rfl (Or.inl rfl) (pe_ix ix_list (pe_lst (pa_cons pe_str (pa_cons pe_str (pa_cons pe_str (pa_cons pe_str pa_nil))))) (pe_op op_mod (pv 2) pe_int) (fun _ _ => rfl)))
    (pss_cons (ps_set (i := 6) scToldF.nd rfl (Or.inl rfl) (pe_def GR hr (pa_cons (pv 0) (pa_cons (pv 3) (pa_cons (pe_ix ix_list (pe_lst (pa_cons pe_int (pa_cons pe_int (pa_cons pe_int (pa_cons pe_int (pa_cons pe_int (pa_cons pe_int pa_nil))))))) (pe_op op_mod (pe_op op_fdiv (pv 2) pe_int) pe_int) (fun _ _ => rfl)) (pa_cons (pv 4) pa_nil))))))
    (pss_cons (ps_set (i := 7) scToldF.nd rfl (Or.inl rfl) (pe_def GB hr (pa_cons (pv 0) (pa_cons (pe_ix ix_tup (pv 6) (pe_un un_neg pe_int) (fun _ _ => rfl)) (pa_cons (pe_op op_fdiv (pv 2) pe_int) pa_nil)))))
    (pss_cons (ps_set (i := 8) scToldF.nd rfl (Or.inl rfl) (pe_op op_add (pe_op op_fdiv (pv 3) pe_int) pe_int))
    (pss_cons (ps_if (pt_val (pv 4))
      (pss_cons (ps_set (i := 8) scToldF.nd rfl (Or.inl rfl) (pv 3))
      (pss_one (ps_for PassesOwn.never rfl (pi_tup (pv 6)) (pg_name (i := 9) scToldF.nd rfl (Or.inl rfl)) (pss_one (ps_set (i := 8) scToldF.nd rfl (Or.inl rfl) (pe_op op_fdiv (pv 8) (pe_callB call_len_seq rfl T.len PySem.boot_len (pa_cons (pv 0) pa_nil)))))))) pss_nil)
    (pss_one (ps_ret (pe_tup (pa_cons pe_str (pa_cons (pv 1) (pa_cons (pv 5) (pa_cons (pv 6) (pa_cons (pv 7) (pa_cons (pe_def GR hr (pa_cons (pv 0) (pa_cons (pv 8) (pa_cons (pe_op op_add pe_int (pe_op op_mod (pe_op op_fdiv (pv 2) pe_int) pe_int)) (pa_cons (pv 4) pa_nil))))) pa_nil)))))))))))))
    , ?_⟩
  have hb := big
  have w1 : 1 ≤ ws.length := by have := hmn.l3; omega
  have w6 := hmn.l6
  have hlw : (ws.map V.str).length = ws.length := List.length_map _
  obtain ⟨sc, hsc, esc⟩ := at_str (ws := scopes4) (k := c % 4) (Int.emod_nonneg _ (by decide)) (by show c % 4 < 4; exact Int.emod_lt_of_pos _ (by decide))
  refine ⟨(by show 4 ≤ sizeLine; decide), fun p1 hp1 => ?_⟩
  have g1 := same_new hp1 (.lst (scopes4.map V.str))
  refine ⟨_, rfl, _, _, rfl, rfl, (by show (0 : Int) < _; decide), p1, _, _, _, rfl, rfl, SqL.of upd_same, esc, ?_⟩
  obtain ⟨sz, hsz, esz⟩ := at_int (is := [1, 1, 2, 2, 3, 4]) (k := c / 4 % 6) (Int.emod_nonneg _ (by decide)) (Int.emod_lt_of_pos _ (by decide))
  have s14 : 1 ≤ sz ∧ sz ≤ 4 := by
    simp only [List.mem_cons, List.not_mem_nil, or_false] at hsz
    omega
  have g1 : Same H (upd H p1 (.lst [.str "all", .str "part", .str "here", .str "else"])) := g1
  generalize upd H p1 (.lst [.str "all", .str "part", .str "here", .str "else"]) = H1 at g1
  refine ⟨_, rfl, _, rfl, (by show 6 ≤ sizeLine; decide), fun p2 hp2 => ?_⟩
  have g2 := same_new hp2 (.lst [.int 1, .int 1, .int 2, .int 2, .int 3, .int 4])
  refine ⟨_, rfl, _, _, rfl, rfl, ⟨by decide, by decide⟩, _, _, rfl, rfl, (by show (0 : Int) < _; decide), p2, _, _, _, rfl, rfl, SqL.of upd_same, esz, _, rfl, ?_⟩
  generalize upd H1 p2 (.lst [.int 1, .int 1, .int 2, .int 2, .int 3, .int 4]) = H2 at g2
  have g12 := g1.trans g2
  refine ⟨me, mr, sz, fr, ws, rfl, SqL.of (g12 _ _ hM), w1, w6, by omega, by omega, fun ph p3 H3 g3 h3 hl3 hz3 => ?_⟩
  obtain ⟨p0, last, eph⟩ := snoc_of (l := ph) (fun z => by rw [z] at hl3; simp at hl3; omega)
  have g13 := g12.trans g3
  have eat : atI (ph.map V.str) (-1) = some (.str last) := by rw [eph, List.map_append]; exact atI_last _ _
  have hlm : last ∈ ws := hz3 last (by rw [eph]; exact List.mem_append_right _ List.mem_cons_self)
  refine ⟨_, rfl, _, rfl, 1, rfl, p3, _, _, _, rfl, rfl, SqT.of h3, eat, _, rfl, _, _, rfl, rfl, ⟨by decide, by decide⟩, me, last, c / 24, ws, rfl, g13 _ _ hM, hmn.nd, hmn.wd, hmn.l3, hmn.l6, hlm, fun bs vb H4 g4 hbs hbl hbo => ?_⟩
  have g14 := g13.trans g4
  have h34 := g4 _ _ h3
  have m0 : 0 ≤ c / 192 % 4 := Int.emod_nonneg _ (by decide)
  have m1 : c / 192 % 4 < 4 := Int.emod_lt_of_pos _ (by decide)
  refine ⟨_, rfl, _, _, rfl, rfl, ⟨by decide, by decide⟩, _, _, rfl, rfl, ?_⟩
  refine gn_rdB ?_
  refine seqif_post fr (fun σ H5 => H5 = H4 ∧ ∃ (x : Int) (u : Option V), σ = [some (.ref me), some (.int n), some (.int c), some (.int mr), some (.bl fr), some (.str sc), some (.ref p3), some vb, some (.int x), u]) (fun Q q => ⟨_, rfl, _, rfl, q⟩) (fun _ Nx hN => ?_) (fun _ => ⟨rfl, _, _, rfl⟩) ?_
  · refine ⟨_, rfl, _, rfl, p3, rfl, ⟨_, SqT.of h34⟩, ?_⟩
    refine for_tup (K := K) (a := p3) (xs := ph.map V.str) (fun i σ' H' => H' = H4 ∧ ∃ (x : Int) (u : Option V), σ' = [some (.ref me), some (.int n), some (.int c), some (.int mr), some (.bl fr), some (.str sc), some (.ref p3), some vb, some (.int x), u]) ⟨rfl, _, _, rfl⟩ (fun i σ' H' _ h => by rw [h.1]; exact SqT.of h34) ?_ ?_
    · rintro i v σ' H' hi ⟨rfl, x, u, rfl⟩
      exact ⟨_, rfl, _, rfl, me, _, rfl, .inl (SqL.of (g14 _ _ hM)), _, _, rfl, rfl, ⟨by omega, by omega⟩, rfl, _, _, rfl⟩
    · rintro σ' H' ⟨rfl, x, u, rfl⟩
      exact hN _ _ ⟨rfl, x, u, rfl⟩
  rintro σ5 H5 ⟨rfl, x, u, rfl⟩
  refine ⟨_, rfl, _, rfl, _, rfl, _, rfl, _, rfl, _, rfl, _, rfl, _, _, rfl, rfl, ⟨by decide, by decide⟩, _, _, rfl, rfl, (by show (0 : Int) < _; decide), _, _, rfl, rfl, _, rfl, me, x, 1 + c / 192 % 4, fr, ws, rfl, SqL.of (g14 _ _ hM), w1, w6, by omega, by omega, fun ms p5 H6 g5 h5 hl5 hz5 => ?_⟩
  refine ⟨(by show 6 ≤ sizeLine; decide), fun p6 hp6 => ?_⟩
  have g6 := same_new hp6 (.tup [.str "tell", .int n, .str sc, .ref p3, vb, .ref p5])
  have g56 := g5.trans g6
  refine q sc ph bs ms _ _ (g14.trans g56) ⟨p6, .ref p3, vb, .ref p5, rfl, upd_same, ⟨p3, rfl, g56 _ _ h34⟩, hbs.mono g56.t, ⟨p5, rfl, g6 _ _ h5⟩⟩ ⟨hsc, by omega, hz3, hbl, ⟨p0, last, eph, hbo⟩, by omega, by omega, hz5⟩
end
end D
namespace D
open PySem L2
def lvl (H : Hp) (ts : List Th) (l : Addr) : Prop := ∃ xs, H l = some (.lst xs) ∧ thsR H ts xs
structure Stk (H0 H : Hp) (np ip : Addr) (nums : List Int) (tss : List (List Th)) (ls : List Addr) : Prop where
  same : Same H0 H
  hn : H np = some (.lst (nums.map V.int))
  hi : H ip = some (.lst (ls.map V.ref))
  lv : Paired (lvl H) tss ls
  nd : ls.Nodup
  ni : np ≠ ip
  nn : np ∉ ls
  ii : ip ∉ ls
  fn : H0 np = none
  fi : H0 ip = none
  fl : ∀ l ∈ ls, H0 l = none
theorem lvls_keep {H H' : Hp} (g : TSame H H') : ∀ {tss : List (List Th)} {ls : List Addr}, Paired (lvl H) tss ls → (∀ l ∈ ls, ∀ o, H l = some o → H' l = some o) → Paired (lvl H') tss ls
  | _, _, .nil, _ => .nil
  | _ :: _, l :: _, .cons ⟨xs, h1, h2⟩ r, k => .cons ⟨xs, k l List.mem_cons_self _ h1, h2.mono g⟩ (lvls_keep g r fun m hm => k m (List.mem_cons_of_mem _ hm))
theorem paired_split {α β : Type} {F : α → β → Prop} : ∀ {l l' : List α} {m : List β}, Paired F (l ++ l') m → ∃ m1 m2, m = m1 ++ m2 ∧ Paired F l m1 ∧ Paired F l' m2
  | [], _, m, h => ⟨[], m, rfl, .nil, h⟩
  | _ :: _, _, _ :: _, .cons q r => by
    obtain ⟨m1, m2, e, h1, h2⟩ := paired_split r
    exact ⟨_ :: m1, m2, by rw [e]; rfl, .cons q h1, h2⟩
theorem paired_app {α β : Type} {F : α → β → Prop} : ∀ {l l' : List α} {m m' : List β}, Paired F l m → Paired F l' m' → Paired F (l ++ l') (m ++ m')
  | _, _, _, _, .nil, h => h
  | _ :: _, _, _ :: _, _, .cons q r, h => .cons q (paired_app r h)
theorem paired_len {α β : Type} {F : α → β → Prop} : ∀ {l : List α} {m : List β}, Paired F l m → l.length = m.length
  | _, _, .nil => rfl
  | _ :: _, _ :: _, .cons _ r => by rw [List.length_cons, List.length_cons, paired_len r]
theorem last_map {α : Type} (g : α → V) (l : List α) (x : α) : ((l ++ [x]).map g)[((l ++ [x]).map g).length - 1]? = some (g x) ∧ ((l ++ [x]).map g).dropLast = l.map g := by
  rw [List.map_append]
  refine ⟨?_, by simp⟩
  rw [List.length_append, List.length_map]
  simp
def numsL (ts : List Th) : List Int := (ts.flatMap Th.ord).map Th.num
theorem numsL_app (a b : List Th) : numsL (a ++ b) = numsL a ++ numsL b := by
  unfold numsL
  rw [List.flatMap_append, List.map_append]
theorem numsL_part (n : Int) (ts : List Th) : numsL [.part n (F.of ts)] = n :: numsL ts := by
  unfold numsL
  show ((Th.part n (F.of ts) :: (F.of ts).ord) ++ []).map Th.num = _
  rw [List.append_nil, List.map_cons, ord_flat, ths_of] <;> rfl
theorem numsL_len (ts : List Th) : ts.length ≤ (numsL ts).length := by
  induction ts with
  | nil => exact Nat.zero_le _
  | cons t r ih =>
    rw [show t :: r = [t] ++ r from rfl, numsL_app, List.length_append, List.length_append]
    have h1 : 1 ≤ (numsL [t]).length := by
      unfold numsL
      show 1 ≤ (((t :: t.sub.ord) ++ []).map Th.num).length
      rw [List.length_map, List.length_append, List.length_cons]
      omega
    show 1 + r.length ≤ _
    omega
theorem dep_cons (t : Th) (f : F) : (t.cons f).dep = max (t.cons .nil).dep f.dep := by
  cases t with
  | say n ws => show f.dep = max 0 f.dep; omega
  | tell n sc ph bs ms => show f.dep = max 0 f.dep; omega
  | part n i => show max (i.dep + 1) f.dep = max (max (i.dep + 1) 0) f.dep; omega
theorem dep_app : ∀ (a b : List Th), (F.of (a ++ b)).dep = max (F.of a).dep (F.of b).dep
  | [], b => by show (F.of b).dep = max 0 _; omega
  | t :: r, b => by
    show (t.cons (F.of (r ++ b))).dep = max (t.cons (F.of r)).dep _
    rw [dep_cons, dep_cons t (F.of r), dep_app r b]
    omega
theorem snoc2_of {α : Type} {l : List α} (h : 2 ≤ l.length) : ∃ l' x y, l = l' ++ [x, y] := by
  obtain ⟨l1, y, rfl⟩ := snoc_of (l := l) (by intro z; rw [z] at h; simp at h)
  rw [List.length_append, List.length_singleton] at h
  obtain ⟨l2, x, rfl⟩ := snoc_of (l := l1) (by intro z; rw [z] at h; simp at h)
  exact ⟨l2, x, y, by simp⟩
theorem Stk.put {H0 H H1 : Hp} {np ip : Addr} {nums : List Int} {tss : List (List Th)} {ts : List Th} {ls : List Addr} {l : Addr} {xs : List V} {t : Th} {v : V} (S : Stk H0 H np ip nums (tss ++ [ts]) (ls ++ [l])) (g : Same H H1) (hl : H l = some (.lst xs)) (hx : thsR H ts xs) (ht : thR H1 t v) :
    Stk H0 (upd H1 l (.lst (xs ++ [v]))) np ip nums (tss ++ [ts ++ [t]]) (ls ++ [l]) := by
  have lm : l ∈ ls ++ [l] := List.mem_append_right _ List.mem_cons_self
  have np' : np ≠ l := fun e => S.nn (e ▸ lm)
  have ip' : ip ≠ l := fun e => S.ii (e ▸ lm)
  have nd := S.nd
  rw [List.nodup_append] at nd
  have nl : l ∉ ls := fun z => nd.2.2 l z l List.mem_cons_self rfl
  have hl1 := g _ _ hl
  have g2 : TSame H1 (upd H1 l (.lst (xs ++ [v]))) := TSame.lst hl1
  obtain ⟨m1, m2, e, p1, p2⟩ := paired_split S.lv
  have hm : m1.length = ls.length ∧ m2.length = 1 := by
    have := paired_len p2
    have e' := congrArg List.length e
    rw [List.length_append, List.length_append, List.length_singleton] at e'
    have : m2.length = 1 := this.symm
    omega
  obtain ⟨e1, e2⟩ := List.append_inj e hm.1.symm
  subst e1
  refine ⟨keep_upd (S.fl l lm) (S.same.trans g) _, ?_, ?_, ?_, S.nd, S.ni, S.nn, S.ii, S.fn, S.fi, S.fl⟩
  · rw [upd_ne np']; exact g _ _ S.hn
  · rw [upd_ne ip']; exact g _ _ S.hi
  · refine paired_app (lvls_keep (g.t.trans g2) p1 fun b hb o e => ?_) (.cons ⟨_, upd_same, paired_app ((hx.mono g.t).mono g2) (.cons (ht.mono g2) .nil)⟩ .nil)
    rw [upd_ne (fun (z : b = l) => nl (z ▸ hb))]
    exact g _ _ e
theorem Stk.begunA {H0 H : Hp} {np ip : Addr} {nums : List Int} {tss : List (List Th)} {ls : List Addr} (S : Stk H0 H np ip nums tss ls) {n : Int} {l : Addr} (lH : H l = none) :
    Stk H0 (upd (upd (upd H l (.lst [])) ip (.lst ((ls ++ [l]).map V.ref))) np (.lst ((nums ++ [n]).map V.int))) np ip (nums ++ [n]) (tss ++ [[]]) (ls ++ [l]) := by
  have lp : l ≠ np := (ne_of_none S.hn lH).symm
  have li : l ≠ ip := (ne_of_none S.hi lH).symm
  have l0 : H0 l = none := S.same.free lH
  have nl : l ∉ ls := fun z => by
    obtain ⟨i, hi⟩ := List.mem_iff_getElem?.mp z
    obtain ⟨ts, _, xs, h1, _⟩ := paired_get S.lv hi
    rw [lH] at h1
    cases h1
  have g1 : TSame H (upd H l (.lst [])) := TSame.new lH
  have hi2 : upd H l (.lst []) ip = some (.lst (ls.map V.ref)) := by rw [upd_ne li.symm]; exact S.hi
  have g2 := TSame.lst (o := .lst ((ls ++ [l]).map V.ref)) hi2
  have hn3 : upd (upd H l (.lst [])) ip (.lst ((ls ++ [l]).map V.ref)) np = some (.lst (nums.map V.int)) := by rw [upd_ne S.ni, upd_ne lp.symm]; exact S.hn
  have g3 := TSame.lst (o := .lst ((nums ++ [n]).map V.int)) hn3
  refine ⟨keep_upd S.fn (keep_upd S.fi (keep_upd l0 S.same _) _) _, upd_same, ?_, ?_, ?_, S.ni, ?_, ?_, S.fn, S.fi, ?_⟩
  · rw [upd_ne S.ni.symm, upd_same]
  · refine paired_app (lvls_keep ((g1.trans g2).trans g3) S.lv fun b hb o e => ?_) (.cons ⟨[], ?_, .nil⟩ .nil)
    · rw [upd_ne (fun (z : b = np) => S.nn (z ▸ hb)), upd_ne (fun (z : b = ip) => S.ii (z ▸ hb)), upd_ne (fun (z : b = l) => nl (z ▸ hb))]
      exact e
    · rw [upd_ne lp, upd_ne li, upd_same]
  · rw [List.nodup_append]
    refine ⟨S.nd, by simp, fun x hx y hy z => ?_⟩
    rw [List.mem_singleton.mp hy] at z
    exact nl (z ▸ hx)
  · intro z
    rcases List.mem_append.mp z with z | z
    · exact S.nn z
    · exact lp (List.mem_singleton.mp z).symm
  · intro z
    rcases List.mem_append.mp z with z | z
    · exact S.ii z
    · exact li (List.mem_singleton.mp z).symm
  · intro b hb
    rcases List.mem_append.mp hb with z | z
    · exact S.fl b z
    · rw [List.mem_singleton.mp z]; exact l0
def ThOk (ws : List Str) : Th → Prop
  | .say _ zs => 1 ≤ zs.length ∧ zs.length ≤ 200 ∧ ∀ z ∈ zs, z ∈ ws
  | .tell _ sc ph bs ms => TlOk ws sc ph bs ms
  | .part _ _ => True
def ordL (ts : List Th) : List Th := ts.flatMap Th.ord
theorem ordL_app (a b : List Th) : ordL (a ++ b) = ordL a ++ ordL b := by unfold ordL; rw [List.flatMap_append]
theorem ordL_part (n : Int) (ts : List Th) : ordL [.part n (L2.F.of ts)] = .part n (L2.F.of ts) :: ordL ts := by
  unfold ordL
  show (Th.part n (L2.F.of ts) :: (L2.F.of ts).ord) ++ [] = _
  rw [List.append_nil, ord_flat, ths_of]
theorem numsL_ord (ts : List Th) : numsL ts = (ordL ts).map Th.num := rfl
def allA (nums : List Int) (tss : List (List Th)) : List Int := tss.flatMap numsL ++ nums
structure HeldA (ns : List Int) (ws : List Str) (nums : List Int) (tss : List (List Th)) (i : Nat) : Prop where
  len : nums.length + 1 = tss.length
  most : tss.length ≤ 9
  dep : ∀ d ts, tss[d]? = some ts → (L2.F.of ts).dep + d ≤ 8
  nd : (allA nums tss).Nodup
  mem : ∀ x ∈ allA nums tss, ∃ j : Nat, j < i ∧ x = numA ns (j : Nat)
  few : (allA nums tss).length ≤ i
  ok : ∀ ts ∈ tss, ∀ t ∈ ordL ts, ThOk ws t
theorem HeldA.size {ns nums : List Int} {ws : List Str} {tss : List (List Th)} {i : Nat} (h : HeldA ns ws nums tss i) : ∀ ts ∈ tss, ts.length ≤ i := fun ts ht => by
  have h2 : (numsL ts).length ≤ (allA nums tss).length := by
    unfold allA
    rw [List.length_append]
    have : (numsL ts).Sublist (tss.flatMap numsL) := List.sublist_flatten_of_mem (List.mem_map.mpr ⟨ts, ht, rfl⟩)
    have := this.length_le
    omega
  have h3 := numsL_len ts
  have := h.few
  omega
theorem heldA_start (ns : List Int) (ws : List Str) : HeldA ns ws [] [[]] 0 := by
  refine ⟨rfl, by decide, fun d ts h => ?_, List.nodup_nil, (fun _ h => nomatch h), Nat.le_refl _, fun ts ht t h => ?_⟩
  · cases d with
    | zero =>
      cases (Option.some.inj h)
      exact Nat.zero_le _
    | succ d => cases h
  · rw [List.mem_singleton.mp ht] at h
    cases h
theorem dep_at {tss : List (List Th)} {ts us : List Th} {d : Nat} (hd : (tss ++ [us])[d]? = some ts) : (d < tss.length ∧ tss[d]? = some ts) ∨ (d = tss.length ∧ us = ts) := by
  by_cases hd' : d < tss.length
  · rw [List.getElem?_append_left hd'] at hd
    exact .inl ⟨hd', hd⟩
  · rw [List.getElem?_append_right (by omega)] at hd
    have hd0 : d = tss.length := by
      by_cases e : d - tss.length = 0
      · omega
      · obtain ⟨k, hk⟩ : ∃ k, d - tss.length = k + 1 := ⟨d - tss.length - 1, by omega⟩
        rw [hk] at hd
        cases hd
    subst hd0
    rw [Nat.sub_self] at hd
    exact .inr ⟨rfl, Option.some.inj hd⟩
theorem HeldA.perm {ns nums nums' : List Int} {ws : List Str} {tss tss' : List (List Th)} {i : Nat} (h : HeldA ns ws nums tss i) (p : (allA nums' tss').Perm (allA nums tss)) : (allA nums' tss').Nodup ∧ (∀ x ∈ allA nums' tss', ∃ j : Nat, j < i ∧ x = numA ns (j : Nat)) ∧ (allA nums' tss').length ≤ i :=
  ⟨p.nodup_iff.mpr h.nd, fun x hx => h.mem x (p.mem_iff.mp hx), by rw [p.length_eq]; exact h.few⟩
theorem HeldA.ended {ns nums : List Int} {ws : List Str} {n : Int} {tss : List (List Th)} {ts1 ts2 : List Th} {i : Nat} (h : HeldA ns ws (nums ++ [n]) (tss ++ [ts1, ts2]) i) : HeldA ns ws nums (tss ++ [ts1 ++ [.part n (L2.F.of ts2)]]) i := by
  have hl := h.len
  have hm := h.most
  rw [List.length_append, List.length_append, List.length_singleton] at hl
  rw [List.length_append] at hm
  have hl' : nums.length + 1 + 1 = tss.length + 2 := hl
  have hm' : tss.length + 2 ≤ 9 := hm
  have p : (allA nums (tss ++ [ts1 ++ [Th.part n (L2.F.of ts2)]])).Perm (allA (nums ++ [n]) (tss ++ [ts1, ts2])) := by
    unfold allA
    rw [List.flatMap_append, List.flatMap_append]
    show (tss.flatMap numsL ++ (numsL (ts1 ++ [Th.part n (L2.F.of ts2)]) ++ []) ++ nums).Perm (tss.flatMap numsL ++ (numsL ts1 ++ (numsL ts2 ++ [])) ++ (nums ++ [n]))
    rw [numsL_app, numsL_part, List.perm_iff_count]
    intro x
    simp only [List.count_append, List.count_cons, List.count_nil]
    omega
  obtain ⟨p1, p2, p3⟩ := h.perm p
  refine ⟨by rw [List.length_append, List.length_singleton]; omega, by rw [List.length_append, List.length_singleton]; omega, fun d ts hd => ?_, p1, p2, p3, fun ts ht t htt => ?_⟩
  · rcases dep_at hd with ⟨k, e⟩ | ⟨rfl, rfl⟩
    · exact h.dep d ts (by rw [List.getElem?_append_left k]; exact e)
    · have d1 := h.dep tss.length ts1 (by rw [List.getElem?_append_right (Nat.le_refl _), Nat.sub_self] <;> rfl)
      have d2 := h.dep (tss.length + 1) ts2 (by rw [List.getElem?_append_right (by omega), show tss.length + 1 - tss.length = 1 by omega] <;> rfl)
      rw [dep_app]
      have : (L2.F.of [Th.part n (L2.F.of ts2)]).dep = (L2.F.of ts2).dep + 1 := by show max ((L2.F.of ts2).dep + 1) 0 = _; omega
      omega
  · rcases List.mem_append.mp ht with z | z
    · exact h.ok ts (List.mem_append_left _ z) t htt
    · rw [List.mem_singleton.mp z, ordL_app, ordL_part] at htt
      rcases List.mem_append.mp htt with y | y
      · exact h.ok ts1 (List.mem_append_right _ List.mem_cons_self) t y
      · rcases List.mem_cons.mp y with rfl | y
        · exact True.intro
        · exact h.ok ts2 (List.mem_append_right _ (List.mem_cons_of_mem _ List.mem_cons_self)) t y
theorem HeldA.mono {ns nums : List Int} {ws : List Str} {tss : List (List Th)} {i j : Nat} (h : HeldA ns ws nums tss i) (hij : i ≤ j) : HeldA ns ws nums tss j :=
  ⟨h.len, h.most, h.dep, h.nd, fun x hx => let ⟨k, h1, h2⟩ := h.mem x hx; ⟨k, by omega, h2⟩, Nat.le_trans h.few hij, h.ok⟩
theorem HeldA.fresh {ns nums : List Int} {ws : List Str} {tss : List (List Th)} {i : Nat} (h : HeldA ns ws nums tss i) : numA ns (i : Nat) ∉ allA nums tss := fun z => by
  obtain ⟨j, hj, e⟩ := h.mem _ z
  have := numA_inj ns e
  omega
theorem HeldA.more {ns nums nums' : List Int} {ws : List Str} {tss tss' : List (List Th)} {i : Nat} (h : HeldA ns ws nums tss i) (p : (allA nums' tss').Perm (numA ns (i : Nat) :: allA nums tss)) : (allA nums' tss').Nodup ∧ (∀ x ∈ allA nums' tss', ∃ j : Nat, j < i + 1 ∧ x = numA ns (j : Nat)) ∧ (allA nums' tss').length ≤ i + 1 := by
  refine ⟨p.nodup_iff.mpr (List.nodup_cons.mpr ⟨h.fresh, h.nd⟩), fun x hx => ?_, by rw [p.length_eq, List.length_cons]; have := h.few; omega⟩
  rcases List.mem_cons.mp (p.mem_iff.mp hx) with e | z
  · exact ⟨i, Nat.lt_succ_self _, e⟩
  · obtain ⟨j, hj, e⟩ := h.mem x z
    exact ⟨j, by omega, e⟩
theorem HeldA.begun {ns nums : List Int} {ws : List Str} {tss : List (List Th)} {i : Nat} (h : HeldA ns ws nums tss i) (h8 : tss.length ≤ 8) : HeldA ns ws (nums ++ [numA ns (i : Nat)]) (tss ++ [[]]) (i + 1) := by
  have p : (allA (nums ++ [numA ns (i : Nat)]) (tss ++ [[]])).Perm (numA ns (i : Nat) :: allA nums tss) := by
    unfold allA
    rw [List.flatMap_append]
    show (tss.flatMap numsL ++ [] ++ (nums ++ [numA ns (i : Nat)])).Perm (numA ns (i : Nat) :: (tss.flatMap numsL ++ nums))
    rw [List.perm_iff_count]
    intro x
    simp only [List.count_append, List.count_cons, List.count_nil]
    omega
  obtain ⟨p1, p2, p3⟩ := h.more p
  refine ⟨by rw [List.length_append, List.length_append, ← h.len] <;> rfl, by rw [List.length_append, List.length_singleton]; omega, fun d ts hd => ?_, p1, p2, p3, fun ts ht t htt => ?_⟩
  · rcases dep_at hd with ⟨k, e⟩ | ⟨rfl, rfl⟩
    · exact h.dep d ts e
    · show 0 + _ ≤ 8
      omega
  · rcases List.mem_append.mp ht with z | z
    · exact h.ok ts z t htt
    · rw [List.mem_singleton.mp z] at htt
      cases htt
def LeafA (t : Th) : Prop := ¬ ∃ n i, t = .part n i
theorem ordL_leaf {t : Th} (h : LeafA t) : ordL [t] = [t] := by
  cases t with
  | say n ws => rfl
  | tell n sc ph bs ms => rfl
  | part n i => exact absurd ⟨n, i, rfl⟩ h
theorem dep_leafA {t : Th} (h : LeafA t) : (L2.F.of [t]).dep = 0 := by
  cases t with
  | say n ws => rfl
  | tell n sc ph bs ms => rfl
  | part n i => exact absurd ⟨n, i, rfl⟩ h
theorem HeldA.put {ns nums : List Int} {ws : List Str} {tss : List (List Th)} {ts : List Th} {t : Th} {i : Nat} (h : HeldA ns ws nums (tss ++ [ts]) i) (hl : LeafA t) (hn : t.num = numA ns (i : Nat)) (ht : ThOk ws t) : HeldA ns ws nums (tss ++ [ts ++ [t]]) (i + 1) := by
  have hlen := h.len
  have hm := h.most
  rw [List.length_append, List.length_singleton] at hlen hm
  have p : (allA nums (tss ++ [ts ++ [t]])).Perm (numA ns (i : Nat) :: allA nums (tss ++ [ts])) := by
    unfold allA
    rw [List.flatMap_append, List.flatMap_append]
    show (tss.flatMap numsL ++ (numsL (ts ++ [t]) ++ []) ++ nums).Perm (numA ns (i : Nat) :: (tss.flatMap numsL ++ (numsL ts ++ []) ++ nums))
    rw [numsL_app, numsL_ord [t], ordL_leaf hl, List.map_singleton, hn, List.perm_iff_count]
    intro x
    simp only [List.count_append, List.count_cons, List.count_nil]
    omega
  obtain ⟨p1, p2, p3⟩ := h.more p
  refine ⟨by rw [List.length_append, List.length_singleton]; omega, by rw [List.length_append, List.length_singleton]; omega, fun d us hd => ?_, p1, p2, p3, fun us hus u hu => ?_⟩
  · rcases dep_at hd with ⟨k, e⟩ | ⟨rfl, rfl⟩
    · exact h.dep d us (by rw [List.getElem?_append_left k]; exact e)
    · have d1 := h.dep tss.length ts (by rw [List.getElem?_append_right (Nat.le_refl _), Nat.sub_self] <;> rfl)
      rw [dep_app, dep_leafA hl]
      omega
  · rcases List.mem_append.mp hus with z | z
    · exact h.ok us (List.mem_append_left _ z) u hu
    · rw [List.mem_singleton.mp z, ordL_app, ordL_leaf hl] at hu
      rcases List.mem_append.mp hu with y | y
      · exact h.ok ts (List.mem_append_right _ List.mem_cons_self) u y
      · rw [List.mem_singleton.mp y]; exact ht
structure DocA (ns : List Int) (ws : List Str) (f : L2.F) (m : Nat) : Prop where
  dep : f.dep ≤ 8
  nd : (f.ord.map Th.num).Nodup
  mem : ∀ x ∈ f.ord.map Th.num, ∃ j : Nat, j < m ∧ x = numA ns (j : Nat)
  few : f.ord.length ≤ m
  ok : ∀ t ∈ f.ord, ThOk ws t
theorem HeldA.doc {ns nums : List Int} {ws : List Str} {ts : List Th} {i : Nat} (h : HeldA ns ws nums [ts] i) : DocA ns ws (L2.F.of ts) i := by
  have hl := h.len
  have hr0 : nums = [] := List.eq_nil_of_length_eq_zero (by simpa using hl)
  subst hr0
  have e : allA [] [ts] = (L2.F.of ts).ord.map Th.num := by
    unfold allA
    show (numsL ts ++ []) ++ [] = _
    rw [List.append_nil, List.append_nil, ord_flat, ths_of] <;> rfl
  refine ⟨h.dep 0 ts rfl, by rw [← e]; exact h.nd, by rw [← e]; exact h.mem, by have := h.few; rw [e, List.length_map] at this; exact this, fun t ht => h.ok ts List.mem_cons_self t ?_⟩
  rw [ord_flat, ths_of] at ht
  exact ht
end D
namespace D
open PySem L2
def spDocF (K : PySem.W.Frag) : Sp := fun vs H Q _ => ∃ (a me : Addr) (ns : List Int) (ws : List Str) (mo : Int) (fr : Bool), vs = [.ref a, .ref me, .int mo, .bl fr] ∧ SqL K H a (ns.map V.int) ∧ ns.length ≤ 63 ∧ H me = some (.lst (ws.map V.str)) ∧ MnOk ws ∧ 0 ≤ mo ∧ mo ≤ 40 ∧
  ∀ (f : L2.F) v H', Same H H' → partR H' 0 f v → DocA ns ws f mo.toNat → Q v H'
def rTupOf (K : PySem.W.Frag) : List V → Hp → VK → Prop := fun xs H Q => ∃ p ys, xs = [.ref p] ∧ ((SqL K H p ys ∧ ∀ l, H l = none → Q (.ref l) (upd H l (.tup ys))) ∨ (SqT K H p ys ∧ Q (.ref p) H))
theorem end_rd {K : PySem.W.Frag} {H0 H : Hp} {np ip : Addr} {nums : List Int} {n : Int} {tss : List (List Th)} {ts1 ts2 : List Th} {ls : List Addr} {D : Ends} {s0 s1 s2 sf s5 s6 s7 s8 s9 s10 : Option V} (S : Stk H0 H np ip (nums ++ [n]) (tss ++ [ts1, ts2]) ls) (b1 : ts1.length ≤ 1000)
    (q : ∀ H' ls' u, Stk H0 H' np ip nums (tss ++ [ts1 ++ [.part n (L2.F.of ts2)]]) ls' → D.nx [s0, s1, s2, sf, some (.ref ip), some (.ref np), s5, s6, s7, s8, s9, u] H') :
    tSeq (tAsg (tCB (rTupOf K) (tCons (tBM0 K "list" rPop (tVar 4)) tNil)) (gName 11)) (tDrop (tBM K "list" rAppend (tOp (rIxL K) (tVar 4) (tUn (rU fun i => .int (-i)) (tC (.int 1)))) (tCons (tTup (tCons (tC (.str "part")) (tCons (tBM0 K "list" rPop (tVar 5)) (tCons (tVar 11) tNil)))) tNil))) D [s0, s1, s2, sf, some (.ref ip), some (.ref np), s5, s6, s7, s8, s9, s10] H := by
  have hb := big
  obtain ⟨l0, l12, e0, p0, p12⟩ := paired_split S.lv
  cases p12 with
  | cons k1 p2 =>
    rename_i a1 m1
    cases p2 with
    | cons k2 p3 =>
      rename_i a2 m2
      cases p3
      obtain ⟨xs1, h1, t1⟩ := k1
      obtain ⟨xs2, h2, t2⟩ := k2
      subst e0
      have m1 : a1 ∈ l0 ++ [a1, a2] := List.mem_append_right _ List.mem_cons_self
      have m2 : a2 ∈ l0 ++ [a1, a2] := List.mem_append_right _ (List.mem_cons_of_mem _ List.mem_cons_self)
      have n1p : a1 ≠ np := fun e => S.nn (e ▸ m1)
      have n1i : a1 ≠ ip := fun e => S.ii (e ▸ m1)
      have n2p : a2 ≠ np := fun e => S.nn (e ▸ m2)
      have n2i : a2 ≠ ip := fun e => S.ii (e ▸ m2)
      have nd := S.nd
      rw [List.nodup_append] at nd
      obtain ⟨nd0, nd1, ndx⟩ := nd
      have n01 : a1 ∉ l0 := fun z => ndx a1 z a1 List.mem_cons_self rfl
      have eI := last_map V.ref (l0 ++ [a1]) a2
      rw [show (l0 ++ [a1]) ++ [a2] = l0 ++ [a1, a2] by simp] at eI
      refine ⟨_, rfl, .inl ⟨rfl, _, SqL.of S.hi⟩, ip, _, _, rfl, rfl, S.hi, eI.1, ?_⟩
      rw [eI.2]
      have gB : TSame H (upd H ip (.lst ((l0 ++ [a1]).map V.ref))) := TSame.lst S.hi
      have o2 : ∀ b o, b ≠ ip → H b = some o → upd H ip (.lst ((l0 ++ [a1]).map V.ref)) b = some o := fun b o hb e => by rw [upd_ne hb]; exact e
      have v2 : upd H ip (.lst ((l0 ++ [a1]).map V.ref)) ip = some (.lst ((l0 ++ [a1]).map V.ref)) := upd_same
      have f2 : Same H0 (upd H ip (.lst ((l0 ++ [a1]).map V.ref))) := keep_upd S.fi S.same _
      generalize upd H ip (.lst ((l0 ++ [a1]).map V.ref)) = H2 at gB o2 v2 f2 ⊢
      have h2' : H2 a2 = some (.lst xs2) := o2 _ _ n2i h2
      have h1' : H2 a1 = some (.lst xs1) := o2 _ _ n1i h1
      have hn2 : H2 np = some (.lst ((nums ++ [n]).map V.int)) := o2 _ _ S.ni S.hn
      refine ⟨a2, _, rfl, .inl ⟨SqL.of h2', fun t ht => ?_⟩⟩
      have gC := same_new ht (.tup xs2)
      have e3 : upd H2 t (.tup xs2) t = some (.tup xs2) := upd_same
      generalize upd H2 t (.tup xs2) = H3 at gC e3 ⊢
      have h1'' := gC _ _ h1'
      have hn3 := gC _ _ hn2
      have v3 := gC _ _ v2
      have hat : atI ((l0 ++ [a1]).map V.ref) (-1) = some (.ref a1) := by rw [List.map_append]; exact atI_last _ _
      have eN := last_map V.int nums n
      refine ⟨_, rfl, 1, rfl, ip, _, _, _, rfl, rfl, SqL.of v3, hat, .inl ⟨rfl, _, SqL.of h1''⟩, _, rfl, .inl ⟨rfl, _, SqL.of hn3⟩, np, _, _, rfl, rfl, hn3, eN.1, ?_⟩
      rw [eN.2]
      have gA : TSame H3 (upd H3 np (.lst (nums.map V.int))) := TSame.lst hn3
      have o1 : ∀ b o, b ≠ np → H3 b = some o → upd H3 np (.lst (nums.map V.int)) b = some o := fun b o hb e => by rw [upd_ne hb]; exact e
      have v1 : upd H3 np (.lst (nums.map V.int)) np = some (.lst (nums.map V.int)) := upd_same
      have f4 : Same H0 (upd H3 np (.lst (nums.map V.int))) := keep_upd S.fn (f2.trans gC) _
      generalize upd H3 np (.lst (nums.map V.int)) = H4 at gA o1 v1 f4 ⊢
      refine ⟨_, rfl, (by show 3 ≤ sizeLine; decide), fun p hp => ?_⟩
      have gD := same_new hp (.tup [.str "part", .int n, .ref t])
      have e4 : upd H4 p (.tup [.str "part", .int n, .ref t]) p = some (.tup [.str "part", .int n, .ref t]) := upd_same
      generalize upd H4 p (.tup [.str "part", .int n, .ref t]) = H5 at gD e4 ⊢
      have g5 : TSame H H5 := ((gB.trans gC.t).trans gA).trans gD.t
      have h15 : H5 a1 = some (.lst xs1) := gD _ _ (o1 _ _ n1p h1'')
      have hi5 : H5 ip = some (.lst ((l0 ++ [a1]).map V.ref)) := gD _ _ (o1 _ _ S.ni.symm v3)
      have hn5 := gD _ _ v1
      have ht5 : H5 t = some (.tup xs2) := gD _ _ (gA _ _ e3)
      have hl1 : xs1.length ≤ 1000 := by rw [← paired_len t1]; exact b1
      refine ⟨a1, _, _, rfl, rfl, h15, by omega, ?_⟩
      have gE : TSame H5 (upd H5 a1 (.lst (xs1 ++ [.ref p]))) := TSame.lst h15
      have g6 := g5.trans gE
      have hp5 : thR H5 (.part n (L2.F.of ts2)) (.ref p) := ⟨p, t, xs2, rfl, e4, ht5, fR_iff.mpr (by rw [ths_of]; exact t2.mono g5)⟩
      refine q _ (l0 ++ [a1]) _ ⟨?_, ?_, ?_, ?_, ?_, S.ni, ?_, ?_, S.fn, S.fi, ?_⟩
      · exact keep_upd (S.fl a1 m1) (f4.trans gD) _
      · rw [upd_ne n1p.symm]
        exact hn5
      · rw [upd_ne n1i.symm]
        exact hi5
      · refine paired_app (lvls_keep g6 p0 fun l hl o e => ?_) (.cons ⟨_, upd_same, paired_app (t1.mono g6) (.cons (hp5.mono gE) .nil)⟩ .nil)
        have hm : l ∈ l0 ++ [a1, a2] := List.mem_append_left _ hl
        rw [upd_ne (fun (z : l = a1) => n01 (z ▸ hl))]
        exact gD _ _ (o1 _ _ (fun z => S.nn (z ▸ hm)) (gC _ _ (o2 _ _ (fun z => S.ii (z ▸ hm)) e)))
      · rw [List.nodup_append]
        refine ⟨nd0, by simp, fun x hx y hy z => ?_⟩
        rw [List.mem_singleton.mp hy] at z
        exact n01 (z ▸ hx)
      · exact fun z => S.nn (by
          rcases List.mem_append.mp z with z | z
          · exact List.mem_append_left _ z
          · rw [List.mem_singleton.mp z]; exact m1)
      · exact fun z => S.ii (by
          rcases List.mem_append.mp z with z | z
          · exact List.mem_append_left _ z
          · rw [List.mem_singleton.mp z]; exact m1)
      · intro l hl
        rcases List.mem_append.mp hl with z | z
        · exact S.fl l (List.mem_append_left _ z)
        · rw [List.mem_singleton.mp z]; exact S.fl a1 m1
section
variable {P : Program} {w : World} {K : PySem.W.Frag} {mg : Str → Option Value} {base : Heap} {f : Addr} {fd : FuncData}
abbrev NDF : List Str := ["_law_script", "_law_menu_here", "_law_most", "_law_free", "_law_levels", "_law_opened", "_law_deep", "_law_k", "_law_number_here", "_law_cell_here", "_law_more", "_law_inner"]
theorem scDocF : FnScope NDF ["_law_script", "_law_menu_here", "_law_most", "_law_free"] (defScope s_l_doc) := ⟨rfl, rfl, rfl, by decide +kernel, rfl, by decide +kernel, by decide +kernel⟩
set_option maxHeartbeats 16000000 in
theorem ok_docF (F : Fun K "_law_doc" "_law_doc" s_l_doc f fd) (T : Nm mg) (GC : Def P w K mg base CX0 1 "_law_cell" ["_law_script", "_law_k"] (spCell K)) (GR : Def P w K mg base CX0 1 "_law_row" ["_law_menu_here", "_law_cell_here", "_law_size", "_law_free"] (spRowF K)) (GN : Def P w K mg base CX0 2 "_law_number" ["_law_script", "_law_k"] (spNumA K))
    (GT : Def P w K mg base CX0 2 "_law_told" ["_law_menu_here", "_law_number_here", "_law_cell_here", "_law_more", "_law_free"] spToldF) : FnOk P w K mg base CX0 3 f fd ["_law_script", "_law_menu_here", "_law_most", "_law_free"] (spDocF K) := by
  refine F.ok scDocF (fun vs H Q E h => ?_) (fun cdv A outer s H vs Q E hr h => ?_)
  · obtain ⟨a, me, ns, ws, mo, fr, rfl, _⟩ := h
    rfl
  obtain ⟨a, me, ns, ws, mo, fr, rfl, hS, h63, hM, hmn, o0, o1, q⟩ := h
  refine ⟨_, pss_cons (ps_set (i := 4) scDocF.nd rfl (Or.inl rfl) (pe_lst (pa_cons (pe_lst pa_nil) pa_nil)))
    (pss_cons (ps_set (i := 5) scDocF.nd rfl (Or.inl rfl) (pe_lst pa_nil))
    (pss_cons (ps_set (i := 6) scDocF.nd rfl (Or.inl rfl) (pe_cmpR op_eq (pe_op op_mod (pe_op op_fdiv (pe_def GC (hr.mono (by decide)) (pa_cons (pv 0) (pa_cons pe_int pa_nil))) pe_int) pe_int) pe_int (nomark _)))
    (pss_cons (ps_for PassesOwn.never rfl (pi_range1 rfl T.range (pa_cons (pe_op op_mod (pe_def GC (hr.mono (by decide)) (pa_cons (pv 0) (pa_cons pe_int pa_nil))) (pe_op op_add (pv 2) pe_int)) pa_nil)) (pg_name (i := 7) scDocF.nd rfl (Or.inl rfl))
      (pss_cons (ps_set (i := 8) scDocF.nd rfl (Or.inl rfl) (pe_def GN hr (pa_cons (pv 0) (pa_cons (pv 7) pa_nil))))
      (pss_cons (ps_set (i := 9) scDocF.nd rfl (Or.inl rfl) (pe_def GC (hr.mono (by decide)) (pa_cons (pv 0) (pa_cons (pe_op op_add pe_int (pe_op op_mul pe_int (pv 7))) pa_nil))))
      (pss_cons (ps_set (i := 10) scDocF.nd rfl (Or.inl rfl) (pe_def GC (hr.mono (by decide)) (pa_cons (pv 0) (pa_cons (pe_op op_add pe_int (pe_op op_mul pe_int (pv 7))) pa_nil))))
      (pss_one (ps_if (PW.pt (pw_and (PW.pt (pw_or (pt_cmpR op_eq (pe_op op_mod (pv 9) pe_int) pe_int (nomark _)) (pw_or1 (PW.pt (pw_and (pt_val (pv 6)) (pw_and1 (pt_cmpR op_eq (pe_op op_mod (pv 9) pe_int) pe_int (nomark _)))))))) (pw_and1 (pt_cmpR op_lt (pe_callB call_len_seq rfl T.len PySem.boot_len (pa_cons (pv 4) pa_nil)) pe_int (nomark _)))))
        (pss_cons (ps_expr (pe_bm PySem.F.plainAttrs_list PySem.F.slot_list_append PySem.F.type_list_append mt_append (pv 4) (pa_cons (pe_lst pa_nil) pa_nil)))
        (pss_one (ps_expr (pe_bm PySem.F.plainAttrs_list PySem.F.slot_list_append PySem.F.type_list_append mt_append (pv 5) (pa_cons (pv 8) pa_nil)))))
        (pss_one (ps_if (PW.pt (pw_and (pt_cmpR op_eq (pe_op op_mod (pv 9) pe_int) pe_int (nomark _)) (pw_and1 (pt_cmpR op_gt (pe_callB call_len_seq rfl T.len PySem.boot_len (pa_cons (pv 4) pa_nil)) pe_int (nomark _)))))
          (pss_cons (ps_set (i := 11) scDocF.nd rfl (Or.inl rfl) (pe_callTy call_tuple_of rfl T.tuple PyProof.Rows.boot_tuple (pa_cons (pe_bm0 PySem.F.plainAttrs_list PySem.F.slot_list_pop PySem.F.type_list_pop mt_pop (pv 4)) pa_nil)))
          (pss_one (ps_expr (pe_bm PySem.F.plainAttrs_list PySem.F.slot_list_append PySem.F.type_list_append mt_append (pe_ix ix_list (pv 4) (pe_un un_neg pe_int) (fun _ _ => rfl)) (pa_cons (pe_tup (pa_cons pe_str (pa_cons (pe_bm0 PySem.F.plainAttrs_list PySem.F.slot_list_pop PySem.F.type_list_pop mt_pop (pv 5)) (pa_cons (pv 11) pa_nil)))) pa_nil)))))
          (pss_one (ps_if (pt_cmpR op_gt (pe_op op_mod (pv 9) pe_int) pe_int (nomark _))
            (pss_one (ps_expr (pe_bm PySem.F.plainAttrs_list PySem.F.slot_list_append PySem.F.type_list_append mt_append (pe_ix ix_list (pv 4) (pe_un un_neg pe_int) (fun _ _ => rfl)) (pa_cons (pe_def GT hr (pa_cons (pv 1) (pa_cons (pv 8) (pa_cons (pe_op op_fdiv (pv 9) pe_int) (pa_cons (pv 10) (pa_cons (pv 3) pa_nil)))))) pa_nil))))
            (pss_one (ps_expr (pe_bm PySem.F.plainAttrs_list PySem.F.slot_list_append PySem.F.type_list_append mt_append (pe_ix ix_list (pv 4) (pe_un un_neg pe_int) (fun _ _ => rfl)) (pa_cons (pe_tup (pa_cons pe_str (pa_cons (pv 8) (pa_cons (pe_def GR (hr.mono (by decide)) (pa_cons (pv 1) (pa_cons (pv 10) (pa_cons (pe_op op_add pe_int (pe_op op_mod (pe_op op_fdiv (pv 9) pe_int) pe_int)) (pa_cons (pv 3) pa_nil))))) pa_nil)))) pa_nil))))))))))))))
    (pss_cons (ps_while PassesOwn.never (pt_cmpR op_gt (pe_callB call_len_seq rfl T.len PySem.boot_len (pa_cons (pv 4) pa_nil)) pe_int (nomark _))
      (pss_cons (ps_set (i := 11) scDocF.nd rfl (Or.inl rfl) (pe_callTy call_tuple_of rfl T.tuple PyProof.Rows.boot_tuple (pa_cons (pe_bm0 PySem.F.plainAttrs_list PySem.F.slot_list_pop PySem.F.type_list_pop mt_pop (pv 4)) pa_nil)))
      (pss_one (ps_expr (pe_bm PySem.F.plainAttrs_list PySem.F.slot_list_append PySem.F.type_list_append mt_append (pe_ix ix_list (pv 4) (pe_un un_neg pe_int) (fun _ _ => rfl)) (pa_cons (pe_tup (pa_cons pe_str (pa_cons (pe_bm0 PySem.F.plainAttrs_list PySem.F.slot_list_pop PySem.F.type_list_pop mt_pop (pv 5)) (pa_cons (pv 11) pa_nil)))) pa_nil))))))
    (pss_one (ps_ret (pe_tup (pa_cons pe_str (pa_cons pe_int (pa_cons (pe_callTy call_tuple_of rfl T.tuple PyProof.Rows.boot_tuple (pa_cons (pe_ix ix_list (pv 4) pe_int (fun _ _ => rfl)) pa_nil)) pa_nil))))))))))
    , ?_⟩
  have hb := big
  have w1 : 1 ≤ ws.length := by have := hmn.l3; omega
  refine ⟨(by show 0 ≤ sizeLine; decide), fun l0 hl0 => ⟨(by show 1 ≤ sizeLine; decide), fun ip hip => ?_⟩⟩
  refine ⟨(by show 0 ≤ sizeLine; decide), fun np hnp => ?_⟩
  have S0 : Stk H (upd (upd (upd H l0 (.lst [])) ip (.lst [.ref l0])) np (.lst [])) np ip [] [[]] [l0] := by
    have a2 : ip ≠ l0 := fun e => by rw [e, upd_same] at hip; cases hip
    have f2 : H ip = none := by rw [upd_ne a2] at hip; exact hip
    have a3 : np ≠ ip := fun e => by rw [e, upd_same] at hnp; cases hnp
    have a1 : np ≠ l0 := fun e => by rw [e, upd_ne a2.symm, upd_same] at hnp; cases hnp
    have f3 : H np = none := by rw [upd_ne a3, upd_ne a1] at hnp; exact hnp
    refine ⟨keep_upd f3 (keep_upd f2 (keep_upd hl0 (Same.refl _) _) _) _, upd_same, ?_, .cons ⟨[], ?_, .nil⟩ .nil, by simp, a3, by simpa using a1, by simpa using a2, f3, f2, fun l hl => ?_⟩
    · rw [upd_ne a3.symm, upd_same] <;> rfl
    · rw [upd_ne a1.symm, upd_ne a2.symm, upd_same]
    · rw [List.mem_singleton.mp hl]; exact hl0
  generalize upd (upd (upd H l0 (.lst [])) ip (.lst [.ref l0])) np (.lst []) = HS at S0 ⊢
  refine ⟨_, rfl, a, ns, 3, rfl, S0.same.seq hS, h63, by decide, by decide, _, _, rfl, rfl, ⟨by decide, by decide⟩, _, _, rfl, rfl, (by show (0 : Int) < _; decide), rfl, ?_⟩
  generalize decide (V.int (cellZ ns 3 / 3 % 4) = V.int 1) = deep
  refine ⟨_, rfl, a, ns, 2, rfl, S0.same.seq hS, h63, by decide, by decide, _, rfl, _, _, rfl, rfl, _, _, rfl, rfl, (by show (0 : Int) < _; omega), ?_⟩
  generalize cellZ ns 2 = c2
  have m0 : 0 ≤ c2 % (mo + 1) := Int.emod_nonneg _ (by omega)
  have m1 : c2 % (mo + 1) < mo + 1 := Int.emod_lt_of_pos _ (by omega)
  refine ⟨c2 % (mo + 1), rfl, by omega, by omega, ?_⟩
  refine for_range (lo := 0) (n := (c2 % (mo + 1)).toNat) (fun i σ' H' => ∃ (nums : List Int) (tss : List (List Th)) (ls : List Addr) (u6 u7 u8 u9 u10 : Option V), σ' = [some (.ref a), some (.ref me), some (.int mo), some (.bl fr), some (.ref ip), some (.ref np), some (.bl deep), u6, u7, u8, u9, u10] ∧ Stk H H' np ip nums tss ls ∧ HeldA ns ws nums tss i) ?_ ?_ ?_
  · exact ⟨[], [[]], [l0], none, none, none, none, none, rfl, S0, heldA_start ns ws⟩
  · rintro i σ' H' hin ⟨nums, tss, ls, u6, u7, u8, u9, u10, rfl, S, Hd⟩
    have gS := S.same
    have hlen := Hd.len
    have hm9 := Hd.most
    have hi40 : i < 41 := by omega
    have lsl : ls.length = tss.length := (paired_len S.lv).symm
    have hll : (ls.map V.ref).length = tss.length := by rw [List.length_map, lsl]
    have ei : (0 : Int) + (i : Int) = ((i : Nat) : Int) := by omega
    refine ⟨_, rfl, _, rfl, a, ns, 0 + (i : Int), rfl, gS.seq hS, h63, by omega, by omega, ?_⟩
    rw [ei]
    refine ⟨_, rfl, _, rfl, _, _, rfl, rfl, .inl ⟨by decide, by decide⟩, _, _, rfl, rfl, a, ns, 4 + 2 * ((i : Nat) : Int), rfl, gS.seq hS, h63, by omega, by omega, ?_⟩
    generalize cellZ ns (4 + 2 * ((i : Nat) : Int)) = c
    refine ⟨_, rfl, _, rfl, _, _, rfl, rfl, .inl ⟨by decide, by decide⟩, _, _, rfl, rfl, a, ns, 5 + 2 * ((i : Nat) : Int), rfl, gS.seq hS, h63, by omega, by omega, ?_⟩
    generalize cellZ ns (5 + 2 * ((i : Nat) : Int)) = mr
    obtain ⟨tss', ts, ets⟩ := snoc_of (l := tss) (by intro z; rw [z] at hlen; simp at hlen)
    have lastL : ∃ l1 lx xs, ls = l1 ++ [lx] ∧ H' lx = some (.lst xs) ∧ thsR H' ts xs := by
      have lv := S.lv
      rw [ets] at lv
      obtain ⟨l1, l2, e, p1, p2⟩ := paired_split lv
      cases p2 with
      | cons k p3 =>
        rename_i lx _
        cases p3
        obtain ⟨xs, hx, hxt⟩ := k
        exact ⟨l1, lx, xs, e, hx, hxt⟩
    obtain ⟨l1, lx, xs, els, hx, hxt⟩ := lastL
    have hxl : xs.length ≤ 41 := by
      rw [← paired_len hxt]
      have := Hd.size ts (by rw [ets]; exact List.mem_append_right _ List.mem_cons_self)
      omega
    have hat : atI (ls.map V.ref) (-1) = some (.ref lx) := by rw [els, List.map_append]; exact atI_last _ _
    refine gn_rdB ?_
    refine if_tt _ (and_tt _ _ (or_tt (decide (V.int (c % 8) = V.int 6)) _ (fun Q q => ⟨_, rfl, _, _, rfl, rfl, (by show (0 : Int) < _; decide), rfl, _, rfl, q⟩) (fun _ => and_tt deep (decide (V.int (c % 8) = V.int 0)) (fun Q q => ⟨_, rfl, _, rfl, q⟩) (fun _ Q q => ⟨_, rfl, _, _, rfl, rfl, (by show (0 : Int) < _; decide), rfl, _, rfl, q⟩))) (fun _ Q (q : Q (decide ((((ls.map V.ref).length : Nat) : Int) < 9)) H') => ⟨_, rfl, ip, _, rfl, .inl (SqL.of S.hi), _, _, rfl, rfl, _, rfl, q⟩)) (fun z => ?_) (fun _ => ?_)
    · have z9 : (((ls.map V.ref).length : Nat) : Int) < 9 := of_decide_eq_true (Bool.and_eq_true_iff.mp z).2
      rw [hll] at z9
      refine ⟨_, rfl, .inl ⟨rfl, _, SqL.of S.hi⟩, (by show 0 ≤ sizeLine; decide), fun l hl => ?_⟩
      have hil : ip ≠ l := ne_of_none S.hi hl
      have hnl : np ≠ l := ne_of_none S.hn hl
      refine ⟨ip, _, _, rfl, rfl, by rw [upd_ne hil]; exact S.hi, by rw [hll]; omega, ?_⟩
      have hn2 : (upd (upd H' l (.lst [])) ip (.lst (ls.map V.ref ++ [.ref l]))) np = some (.lst (nums.map V.int)) := by rw [upd_ne S.ni, upd_ne hnl]; exact S.hn
      refine ⟨_, rfl, .inl ⟨rfl, _, SqL.of hn2⟩, _, rfl, np, _, _, rfl, rfl, hn2, by rw [List.length_map]; omega, ?_⟩
      have el : ls.map V.ref ++ [V.ref l] = (ls ++ [l]).map V.ref := by rw [List.map_append] <;> rfl
      have en : nums.map V.int ++ [V.int (numA ns (i : Nat))] = (nums ++ [numA ns (i : Nat)]).map V.int := by rw [List.map_append] <;> rfl
      rw [el, en]
      exact ⟨nums ++ [numA ns (i : Nat)], tss ++ [[]], ls ++ [l], _, _, _, _, _, rfl, S.begunA hl, Hd.begun (by omega)⟩
    · refine if_tt _ (and_tt (decide (V.int (c % 8) = V.int 7)) (decide ((((ls.map V.ref).length : Nat) : Int) > 1)) (fun Q q => ⟨_, rfl, _, _, rfl, rfl, (by show (0 : Int) < _; decide), rfl, _, rfl, q⟩) (fun _ Q q => ⟨_, rfl, ip, _, rfl, .inl (SqL.of S.hi), _, _, rfl, rfl, _, rfl, q⟩)) (fun z => ?_) (fun _ => ?_)
      · have z1 : (((ls.map V.ref).length : Nat) : Int) > 1 := of_decide_eq_true (Bool.and_eq_true_iff.mp z).2
        rw [hll] at z1
        obtain ⟨nums', n, en⟩ := snoc_of (l := nums) (by intro z; rw [z] at hlen; simp at hlen; omega)
        obtain ⟨tss2, ts1, ts2, et⟩ := snoc2_of (l := tss) (by omega)
        rw [en, et] at S
        rw [en, et] at Hd
        refine end_rd S (by have := Hd.size ts1 (by simp); omega) fun H2 ls' u S2 => ?_
        exact ⟨nums', _, ls', _, _, _, _, _, rfl, S2, Hd.ended.mono (Nat.le_succ i)⟩
      · refine if_tt (decide (c % 8 > 2)) (fun Q q => ⟨_, rfl, _, _, rfl, rfl, (by show (0 : Int) < _; decide), _, _, rfl, rfl, _, rfl, q⟩) (fun z => ?_) (fun _ => ?_)
        · refine ⟨_, rfl, 1, rfl, ip, _, _, _, rfl, rfl, SqL.of S.hi, hat, .inl ⟨rfl, _, SqL.of hx⟩, _, rfl, _, rfl, _, rfl, _, _, rfl, rfl, ⟨by decide, by decide⟩, _, rfl, _, rfl, me, _, _, _, fr, ws, rfl, gS _ _ hM, hmn, fun sc ph bs ms v H2 g2 ht hok => ?_⟩
          refine ⟨lx, _, _, rfl, rfl, g2 _ _ hx, by omega, ?_⟩
          rw [ets, els] at S
          rw [ets] at Hd
          exact ⟨nums, tss' ++ [ts ++ [.tell (numA ns (i : Nat)) sc ph bs ms]], l1 ++ [lx], _, _, _, _, _, rfl, S.put (t := .tell (numA ns (i : Nat)) sc ph bs ms) g2 hx hxt ht, Hd.put (fun ⟨_, _, e⟩ => nomatch e) rfl hok⟩
        · have z0 : 0 ≤ c / 8 % 6 := Int.emod_nonneg _ (by decide)
          have z1 : c / 8 % 6 < 6 := Int.emod_lt_of_pos _ (by decide)
          refine ⟨_, rfl, 1, rfl, ip, _, _, _, rfl, rfl, SqL.of S.hi, hat, .inl ⟨rfl, _, SqL.of hx⟩, _, rfl, _, rfl, _, rfl, _, rfl, _, _, rfl, rfl, ⟨by decide, by decide⟩, _, _, rfl, rfl, (by show (0 : Int) < _; decide), _, _, rfl, rfl, _, rfl, me, mr, 1 + c / 8 % 6, fr, ws, rfl, SqL.of (gS _ _ hM), w1, hmn.l6, by omega, by omega, fun zs p3 H3 g3 h3 hl3 hz3 => ?_⟩
          refine ⟨(by show 3 ≤ sizeLine; decide), fun p4 hp4 => ?_⟩
          have g4 := same_new hp4 (.tup [.str "say", .int (numA ns (i : Nat)), .ref p3])
          refine ⟨lx, _, _, rfl, rfl, g4 _ _ (g3 _ _ hx), by omega, ?_⟩
          rw [ets, els] at S
          rw [ets] at Hd
          exact ⟨nums, tss' ++ [ts ++ [.say (numA ns (i : Nat)) zs]], l1 ++ [lx], _, _, _, _, _, rfl, S.put (t := .say (numA ns (i : Nat)) zs) (g3.trans g4) hx hxt ⟨p4, .ref p3, rfl, upd_same, p3, rfl, g4 _ _ h3⟩, Hd.put (fun ⟨_, _, e⟩ => nomatch e) rfl ⟨by omega, by omega, hz3⟩⟩
  · rintro σ' H' ⟨nums, tss, ls, u6, u7, u8, u9, u10, rfl, S, Hd⟩
    refine while_by (fun σ2 H2 => ∃ (nums : List Int) (tss : List (List Th)) (ls : List Addr) (u10 : Option V), σ2 = [some (.ref a), some (.ref me), some (.int mo), some (.bl fr), some (.ref ip), some (.ref np), some (.bl deep), u6, u7, u8, u9, u10] ∧ Stk H H2 np ip nums tss ls ∧ HeldA ns ws nums tss (c2 % (mo + 1)).toNat)
      (fun _ H2 => match H2 np with | some (.lst xs) => xs.length | _ => 0) ⟨nums, tss, ls, u10, rfl, S, Hd⟩ ?_ (fun σ H Q Q' hq z => ?_)
    rotate_left
    · obtain ⟨v, hv, p, ys, e, h, i, j, e1, e2, k, e3, z⟩ := z
      exact ⟨v, hv, p, ys, e, h, i, j, e1, e2, k, e3, hq _ _ z⟩
    rintro σ2 H2 ⟨nums, tss, ls, u10, rfl, S, Hd⟩
    have hlen := Hd.len
    have lsl : ls.length = tss.length := (paired_len S.lv).symm
    have hll : (ls.map V.ref).length = tss.length := by rw [List.length_map, lsl]
    refine ⟨_, rfl, ip, _, rfl, .inl (SqL.of S.hi), _, _, rfl, rfl, _, rfl, ?_⟩
    refine ite2 (fun d2 => ?_) (fun d2 => ?_)
    · have d2' : (((ls.map V.ref).length : Nat) : Int) > 1 := of_decide_eq_true d2
      rw [hll] at d2'
      obtain ⟨nums', n, rfl⟩ := snoc_of (l := nums) (by intro z; rw [z] at hlen; simp at hlen; omega)
      obtain ⟨tss', ts1, ts2, rfl⟩ := snoc2_of (l := tss) (by omega)
      refine end_rd S (by have := Hd.size ts1 (by simp); omega) fun H3 ls' u S3 => ?_
      refine ⟨⟨nums', _, ls', u, rfl, S3, Hd.ended⟩, ?_⟩
      show (match H3 np with | some (.lst xs) => xs.length | _ => 0) < (match H2 np with | some (.lst xs) => xs.length | _ => 0)
      rw [S.hn, S3.hn]
      show (nums'.map V.int).length < ((nums' ++ [n]).map V.int).length
      rw [List.length_map, List.length_map, List.length_append, List.length_singleton]
      omega
    · have d2' : ¬ (((ls.map V.ref).length : Nat) : Int) > 1 := of_decide_eq_false (Bool.eq_false_iff.mpr d2)
      rw [hll] at d2'
      have h1 : tss.length = 1 := by omega
      obtain ⟨ts, rfl⟩ : ∃ ts, tss = [ts] := by
        cases tss with
        | nil => simp at h1
        | cons t r =>
          have hr : r = [] := List.eq_nil_of_length_eq_zero (by simpa using h1)
          exact ⟨t, by rw [hr]⟩
      have hlv := S.lv
      cases hlv with
      | cons k p =>
        rename_i l _
        cases p
        obtain ⟨xs, hx, hxt⟩ := k
        have hat : atI ([l].map V.ref) 0 = some (.ref l) := rfl
        refine ⟨_, rfl, ip, _, _, _, rfl, rfl, SqL.of S.hi, hat, l, _, rfl, .inl ⟨SqL.of hx, fun t ht => ⟨(by show 3 ≤ sizeLine; decide), fun p hp => ?_⟩⟩⟩
        have g1 := same_new ht (.tup xs)
        have g2 := same_new hp (.tup [.str "part", .int 0, .ref t])
        have hd := Hd.doc
        exact q (L2.F.of ts) _ _ ((S.same.trans g1).trans g2) ⟨p, t, xs, rfl, upd_same, g2 _ _ upd_same, fR_iff.mpr (by rw [ths_of]; exact hxt.mono (g1.trans g2).t)⟩ ⟨hd.dep, hd.nd, fun x hx => let ⟨j, h1, h2⟩ := hd.mem x hx; ⟨j, by omega, h2⟩, by have := hd.few; omega, hd.ok⟩
end
end D
namespace D
open PySem L2
def phR (H : Hp) (l : List Str) (v : V) : Prop := ∃ p, v = .ref p ∧ H p = some (.tup (l.map V.str))
theorem phR.mono {H H' : Hp} {l : List Str} {v : V} (h : phR H l v) (g : TSame H H') : phR H' l v := let ⟨p, e, h⟩ := h; ⟨p, e, g _ _ h⟩
abbrev phsR (H : Hp) : List (List Str) → List V → Prop := Paired (phR H)
theorem phsR.mono {H H' : Hp} {L : List (List Str)} {xs : List V} (h : phsR H L xs) (g : TSame H H') : phsR H' L xs := Paired.mapP h fun _ _ z => z.mono g
def bendW (last : Str) (b : Str × Str) : Str := ⟨((cs last).take (last.length - b.1.length)).toArray⟩ ++ b.2
theorem bendW_of {last o : Str} {b : Str × Str} (h : bendR last b o) : bendW last b = o := by
  obtain ⟨pre, rfl, rfl⟩ := h
  refine str_ext ?_
  unfold bendW
  rw [cs_app, cs_mk, cs_app, cs_app, len_app, Nat.add_sub_cancel, ← cs_len, List.take_left']
  rfl
def shT (ph : List Str) (bs : List (Str × Str)) : List (List Str) := ph :: bs.map fun b => ph.dropLast ++ [bendW (ph.getLastD "") b]
theorem shT_snoc (p0 : List Str) (last : Str) (bs : List (Str × Str)) : shT (p0 ++ [last]) bs = (p0 ++ [last]) :: bs.map fun b => p0 ++ [bendW last b] := by
  unfold shT
  rw [List.dropLast_concat, List.getLastD_concat]
def BsLen (last : Str) (bs : List (Str × Str)) : Prop := last.length ≤ 20 ∧ ∀ b ∈ bs, b.1.length ≤ last.length ∧ b.2.length ≤ 20
theorem bsLen_of {ws : List Str} {last : Str} {bs : List (Str × Str)} (hw : ∀ x ∈ ws, Wd x) (hl : last ∈ ws) (h : BdsOk ws last bs) : BsLen last bs := by
  obtain ⟨os, p, _, ho⟩ := h
  refine ⟨(hw last hl).2.1, fun b hb => ?_⟩
  obtain ⟨i, hi, rfl⟩ := List.getElem_of_mem hb
  obtain ⟨o, eo, pre, e1, e2⟩ := paired_to p (List.getElem?_eq_getElem hi)
  have hw2 := (hw o (ho o (List.mem_of_getElem? eo))).2.1
  have l1 := congrArg Str.length e1
  have l2 := congrArg Str.length e2
  rw [len_app] at l1 l2
  omega
def spShapes : Sp := fun vs H Q _ => ∃ (v : V) (n : Int) (sc : Str) (p0 : List Str) (last : Str) (bs : List (Str × Str)) (ms : List Str), vs = [v] ∧ tellR H n sc (p0 ++ [last]) bs ms v ∧ p0.length ≤ 4 ∧ bs.length ≤ 5 ∧ BsLen last bs ∧
  ∀ r xs H', Same H H' → H r = none → H' r = some (.lst xs) → phsR H' (shT (p0 ++ [last]) bs) xs → Q (.ref r) H'
section
variable {P : Program} {w : World} {K : PySem.W.Frag} {mg : Str → Option Value} {base : Heap} {f : Addr} {fd : FuncData}
theorem scShapes : FnScope ["_law_thing", "_law_shapes_here", "_law_cut", "_law_put", "_law_last"] ["_law_thing"] (defScope s_l_shapes) := ⟨rfl, rfl, rfl, by decide +kernel, rfl, by decide +kernel, by decide +kernel⟩
set_option maxHeartbeats 4000000 in
theorem ok_shapes (F : Fun K "_law_shapes" "_law_shapes" s_l_shapes f fd) (T : Nm mg) : FnOk P w K mg base CX0 1 f fd ["_law_thing"] spShapes := by
  refine F.ok scShapes (fun vs H Q E h => ?_) (fun cdv A outer s H vs Q E hr h => ?_)
  · obtain ⟨v, n, sc, p0, last, bs, ms, rfl, _⟩ := h
    rfl
  obtain ⟨v, n, sc, p0, last, bs, ms, rfl, hv, h4, h5, ⟨hl20, hbl⟩, q⟩ := h
  refine ⟨_, pss_cons (ps_set (i := 1) scShapes.nd rfl (Or.inl rfl) (pe_lst (pa_cons (pe_ix ix_tup (pv 0) pe_int (fun _ _ => rfl)) pa_nil)))
    (pss_cons (ps_for PassesOwn.never rfl (pi_tup (pe_ix ix_tup (pv 0) pe_int (fun _ _ => rfl))) (pg_tup rfl (pgs_cons (pg_name (i := 2) scShapes.nd rfl (Or.inl rfl)) (pgs_cons (pg_name (i := 3) scShapes.nd rfl (Or.inl rfl)) pgs_nil)))
      (pss_cons (ps_set (i := 4) scShapes.nd rfl (Or.inl rfl) (pe_ix ix_tup (pe_ix ix_tup (pv 0) pe_int (fun _ _ => rfl)) (pe_un un_neg pe_int) (fun _ _ => rfl)))
      (pss_one (ps_expr (pe_bm PySem.F.plainAttrs_list PySem.F.slot_list_append PySem.F.type_list_append mt_append (pv 1) (pa_cons (pe_op op_catX (pe_slice sl_tupX (pe_ix ix_tup (pv 0) pe_int (fun _ _ => rfl)) po_none (po_some (pe_un un_neg pe_int))) (pe_tup (pa_cons (pe_op op_add_str (pe_slice sl_str (pv 4) po_none (po_some (pe_op op_sub (pe_callB call_len_str rfl T.len PySem.boot_len (pa_cons (pv 4) pa_nil)) (pe_callB call_len_str rfl T.len PySem.boot_len (pa_cons (pv 2) pa_nil))))) (pv 3)) pa_nil))) pa_nil))))))
    (pss_one (ps_ret (pv 1)))), ?_⟩
  have hb := big
  obtain ⟨a, x, y, z, rfl, ha, ⟨px, rfl, hpx⟩, ⟨py, ys, rfl, hpy, hys⟩, _⟩ := hv
  refine ⟨_, rfl, a, _, _, _, rfl, rfl, SqT.of ha, rfl, (by show 1 ≤ sizeLine; decide), fun r hr1 => ?_⟩
  have g1 := same_new hr1 (.lst [.ref px])
  have e1 : upd H r (.lst [.ref px]) r = some (.lst [.ref px]) := upd_same
  generalize upd H r (.lst [.ref px]) = H1 at g1 e1 ⊢
  refine ⟨_, rfl, a, _, _, _, rfl, rfl, SqT.of (g1 _ _ ha), rfl, py, rfl, ⟨_, SqT.of (g1 _ _ hpy)⟩, ?_⟩
  have yl := Paired.length hys
  refine for_tup (K := K) (a := py) (xs := ys) (fun i σ' H' => Same H H' ∧ ∃ (zs : List V) (u2 u3 u4 : Option V), σ' = [some (.ref a), some (.ref r), u2, u3, u4] ∧ H' r = some (.lst zs) ∧ phsR H' ((p0 ++ [last]) :: (bs.take i).map fun b => p0 ++ [bendW last b]) zs) ?_ (fun i σ' H' _ h => SqT.of (h.1 _ _ hpy)) ?_ ?_
  · exact ⟨g1, _, _, _, _, rfl, e1, .cons ⟨px, rfl, g1 _ _ hpx⟩ .nil⟩
  · rintro i w σ' H' hi ⟨g, zs, u2, u3, u4, rfl, hr2, hzs⟩
    obtain ⟨b, eb, pb, rfl, hpb⟩ := paired_get hys hi
    obtain ⟨b1, b2⟩ := hbl b (List.mem_of_getElem? eb)
    have zl := Paired.length hzs
    rw [List.length_cons, List.length_map, List.length_take] at zl
    have lt : i < bs.length := (List.getElem?_eq_some_iff.mp eb).1
    have eat : atI ((p0 ++ [last]).map V.str) (-1) = some (.str last) := by rw [List.map_append]; exact atI_last _ _
    have ecut := (cut_last (p0.map V.str) (.str last)).1
    refine ⟨pb, _, rfl, SqT.of (g _ _ hpb), rfl, _, _, rfl, _, _, rfl, rfl, ?_⟩
    refine ⟨_, rfl, a, _, _, _, rfl, rfl, SqT.of (g _ _ ha), rfl, 1, rfl, px, _, _, _, rfl, rfl, SqT.of (g _ _ hpx), eat, ?_⟩
    refine ⟨_, rfl, .inl ⟨rfl, _, SqL.of hr2⟩, _, rfl, a, _, _, _, rfl, rfl, SqT.of (g _ _ ha), rfl, np_rdB ?_⟩
    refine ⟨1, rfl, _, rfl, px, _, rfl, g _ _ hpx, fun p6 H6 g6 h6 => ?_⟩
    have h6 : H6 p6 = some (.tup (p0.map V.str)) := by
      have h6 : H6 p6 = some (.tup (cutV ((p0 ++ [last]).map V.str) none (some (-1)))) := h6
      rw [List.map_append] at h6
      rw [show [last].map V.str = [V.str last] from rfl, ecut] at h6
      exact h6
    refine ⟨_, rfl, np_rdB ?_⟩
    refine ⟨_, rfl, last, rfl, by omega, _, rfl, b.1, rfl, by omega, _, _, rfl, rfl, _, rfl, last, rfl, by omega, _, rfl, _, _, rfl, rfl, ?_⟩
    have ec : cutC last none (some (((last.length : Nat) : Int) - ((b.1.length : Nat) : Int))) = (cs last).take (last.length - b.1.length) := by
      rw [cut_to last (by omega)]
      congr 1
      omega
    refine ⟨by rw [len_mk, ec, List.length_take, cs_len]; omega, (by show 1 ≤ sizeLine; decide), fun p7 hp7 => ?_⟩
    have ew : (⟨(cutC last none (some (((last.length : Nat) : Int) - ((b.1.length : Nat) : Int)))).toArray⟩ : Str) ++ b.2 = bendW last b := by rw [ec] <;> rfl
    have g7 := same_new hp7 (.tup [.str (bendW last b)])
    rw [ew]
    refine ⟨p6, p7, _, _, rfl, rfl, g7 _ _ h6, upd_same, (by rw [List.length_map]; show p0.length + 1 ≤ sizeLine; omega), fun p8 H8 g8 h8 => ?_⟩
    have g68 := (g6.trans g7).trans g8
    have hr8 := g68 _ _ hr2
    refine ⟨r, _, _, rfl, rfl, hr8, by omega, ?_⟩
    have t9 : TSame H8 (upd H8 r (.lst (zs ++ [.ref p8]))) := TSame.lst hr8
    refine ⟨keep_upd hr1 (g.trans g68) _, _, _, _, _, rfl, upd_same, ?_⟩
    have e2 : ((p0 ++ [last]) :: (bs.take (i + 1)).map fun b => p0 ++ [bendW last b]) = ((p0 ++ [last]) :: (bs.take i).map fun b => p0 ++ [bendW last b]) ++ [p0 ++ [bendW last b]] := by
      rw [List.take_add_one, eb, List.map_append] <;> rfl
    rw [e2]
    exact paired_snoc ((hzs.mono g68.t).mono t9) ⟨p8, rfl, t9 _ _ (by rw [h8, List.map_append] <;> rfl)⟩
  · rintro σ' H' ⟨g, zs, u2, u3, u4, rfl, hr2, hzs⟩
    rw [← yl, List.take_length, ← shT_snoc] at hzs
    exact ⟨_, rfl, q r zs H' g hr1 hr2 hzs⟩
end
end D
namespace D
open PySem L2
theorem fnok_false {P : Program} {w : World} {K : PySem.W.Frag} {mg : Str → Option Value} {base : Heap} {CX : CXT} {k : Nat} {f : Addr} {fd : FuncData} {ps : List Str} {sp : Sp} (h : ∀ vs H Q E, ¬ sp vs H Q E) : FnOk P w K mg base CX k f fd ps sp :=
  ⟨fun vs H Q E z => absurd z (h vs H Q E), fun _ _ _ H _ _ vs Q E _ _ _ _ z => absurd z (h vs H Q E)⟩
def iT (H : Hp) (a : Addr) (xs : List Int) : Prop := H a = some (.tup (xs.map V.int))
abbrev Tl := Int × Str × List Int × List (List Str)
def tlsF : L2.F → List Int → List Tl
  | .nil, _ => []
  | .say _ _ r, p => tlsF r p
  | .tell n sc ph bs _ r, p => (n, sc, p, shT ph bs) :: tlsF r p
  | .part n i r, p => tlsF i (p ++ [n]) ++ tlsF r p
def tlT (p : List Int) : Th → List Tl
  | .say _ _ => []
  | .tell n sc ph bs _ => [(n, sc, p, shT ph bs)]
  | .part n i => tlsF i (p ++ [n])
theorem tls_flat (p : List Int) : ∀ f : L2.F, tlsF f p = f.ths.flatMap (tlT p)
  | .nil => rfl
  | .say n ws r => by
    show tlsF r p = _
    rw [tls_flat p r] <;> rfl
  | .tell n sc ph bs ms r => by
    show (n, sc, p, shT ph bs) :: tlsF r p = _
    rw [tls_flat p r] <;> rfl
  | .part n i r => by
    show tlsF i (p ++ [n]) ++ tlsF r p = _
    rw [tls_flat p r] <;> rfl
theorem tls_len : ∀ (f : L2.F) (p : List Int), (tlsF f p).length ≤ f.ord.length
  | .nil, _ => Nat.le_refl _
  | .say n ws r, p => Nat.le_succ_of_le (tls_len r p)
  | .tell n sc ph bs ms r, p => Nat.succ_le_succ (tls_len r p)
  | .part n i r, p => by
    have h1 := tls_len i (p ++ [n])
    have h2 := tls_len r p
    show (tlsF i (p ++ [n]) ++ tlsF r p).length ≤ (Th.part n i :: (i.ord ++ r.ord)).length
    rw [List.length_append, List.length_cons, List.length_append]
    omega
theorem tls_take {f : L2.F} {p : List Int} {i : Nat} {t : Th} (h : f.ths[i]? = some t) : (f.ths.take (i + 1)).flatMap (tlT p) = (f.ths.take i).flatMap (tlT p) ++ tlT p t := by
  rw [List.take_add_one, h, List.flatMap_append]
  show _ ++ (tlT p t ++ []) = _
  rw [List.append_nil]
theorem tls_le {f : L2.F} {p : List Int} (i : Nat) : ((f.ths.take i).flatMap (tlT p)).length ≤ f.ord.length := by
  refine Nat.le_trans ?_ (tls_len f p)
  rw [tls_flat p f]
  conv => rhs; rw [← List.take_append_drop i f.ths, List.flatMap_append, List.length_append]
  omega
def knd : Th → Str
  | .say _ _ => "say"
  | .tell _ _ _ _ _ => "tell"
  | .part _ _ => "part"
theorem thR_head {H : Hp} {t : Th} {v : V} (h : thR H t v) : ∃ a xs, v = .ref a ∧ H a = some (.tup xs) ∧ atI xs 0 = some (.str (knd t)) ∧ atI xs 1 = some (.int t.num) := by
  cases t with
  | say n ws =>
    obtain ⟨a, x, e, q, _⟩ := h
    exact ⟨a, _, e, q, rfl, rfl⟩
  | tell n sc ph bs ms =>
    obtain ⟨a, x, y, z, e, q, _⟩ := h
    exact ⟨a, _, e, q, rfl, rfl⟩
  | part n i =>
    obtain ⟨a, b, zs, e, q, _⟩ := h
    exact ⟨a, _, e, q, rfl, rfl⟩
def tlR (H : Hp) (t : Tl) (v : V) : Prop := ∃ a pp sl xs, v = .ref a ∧ H a = some (.tup [.int t.1, .str t.2.1, .ref pp, .ref sl]) ∧ iT H pp t.2.2.1 ∧ H sl = some (.lst xs) ∧ phsR H t.2.2.2 xs
def tlN (r : Addr) (H : Hp) (t : Tl) (v : V) : Prop := ∃ a pp sl xs, v = .ref a ∧ H a = some (.tup [.int t.1, .str t.2.1, .ref pp, .ref sl]) ∧ iT H pp t.2.2.1 ∧ H sl = some (.lst xs) ∧ phsR H t.2.2.2 xs ∧ sl ≠ r
theorem tlR.mono {H H' : Hp} {t : Tl} {v : V} (h : tlR H t v) (g : Same H H') : tlR H' t v := let ⟨a, pp, sl, xs, e, h1, h2, h3, h4⟩ := h; ⟨a, pp, sl, xs, e, g _ _ h1, g _ _ h2, g _ _ h3, h4.mono g.t⟩
theorem tlN.mono {r : Addr} {H H' : Hp} {t : Tl} {v : V} (h : tlN r H t v) (g : Same H H') : tlN r H' t v := let ⟨a, pp, sl, xs, e, h1, h2, h3, h4, h5⟩ := h; ⟨a, pp, sl, xs, e, g _ _ h1, g _ _ h2, g _ _ h3, h4.mono g.t, h5⟩
theorem tlN.r {r : Addr} {H : Hp} {t : Tl} {v : V} (h : tlN r H t v) : tlR H t v := let ⟨a, pp, sl, xs, e, h1, h2, h3, h4, _⟩ := h; ⟨a, pp, sl, xs, e, h1, h2, h3, h4⟩
theorem tlN.upd {r : Addr} {H : Hp} {t : Tl} {v : V} {ys : List V} {o : HO} (h : tlN r H t v) (hr : H r = some (.lst ys)) : tlN r (L2.upd H r o) t v := by
  obtain ⟨a, pp, sl, xs, e, h1, h2, h3, h4, h5⟩ := h
  have g : TSame H (L2.upd H r o) := TSame.lst hr
  exact ⟨a, pp, sl, xs, e, g _ _ h1, g _ _ h2, by rw [upd_ne h5]; exact h3, h4.mono g, h5⟩
theorem tlR.new {r : Addr} {H : Hp} {t : Tl} {v : V} {o : HO} (h : tlR H t v) (hr : H r = none) : tlN r (L2.upd H r o) t v := by
  have g := same_new hr o
  obtain ⟨a, pp, sl, xs, e, h1, h2, h3, h4⟩ := h
  exact ⟨a, pp, sl, xs, e, g _ _ h1, g _ _ h2, g _ _ h3, h4.mono g.t, ne_of_none h3 hr⟩
def ThsOk (ws : List Str) (f : L2.F) : Prop := ∀ t ∈ f.ord, ThOk ws t
def spTls (d : Nat) : Sp := fun vs H Q _ => ∃ (b a : Addr) (zs : List V) (f : L2.F) (p : List Int) (ws : List Str), vs = [.ref b, .ref a] ∧ H b = some (.tup zs) ∧ fR H f zs ∧ iT H a p ∧ f.dep < d ∧ f.ord.length ≤ 1000 ∧ p.length + f.dep ≤ 1000 ∧ MnOk ws ∧ ThsOk ws f ∧
  ∀ r xs H', Same H H' → H r = none → H' r = some (.lst xs) → Paired (tlR H') (tlsF f p) xs → Q (.ref r) H'
theorem ord_of_ths {f : L2.F} {t u : Th} (h : t ∈ f.ths) (hu : u ∈ t.ord) : u ∈ f.ord := by
  rw [ord_flat]
  exact List.mem_flatMap.mpr ⟨t, h, hu⟩
theorem dep_of_mem {n : Int} {i : L2.F} : ∀ {f : L2.F}, Th.part n i ∈ f.ths → i.dep + 1 ≤ f.dep
  | .say m ws r, h => by
    rcases List.mem_cons.mp h with e | e
    · cases e
    · exact dep_of_mem (f := r) e
  | .tell m sc ph bs ms r, h => by
    rcases List.mem_cons.mp h with e | e
    · cases e
    · exact dep_of_mem (f := r) e
  | .part m j r, h => by
    rcases List.mem_cons.mp h with e | e
    · cases e
      show i.dep + 1 ≤ max (i.dep + 1) r.dep
      omega
    · have := dep_of_mem (f := r) e
      show _ ≤ max (j.dep + 1) r.dep
      omega
section
variable {P : Program} {w : World} {K : PySem.W.Frag} {mg : Str → Option Value} {base : Heap} {f : Addr} {fd : FuncData}
theorem scTls : FnScope ["_law_things", "_law_path", "_law_rows_here", "_law_thing"] ["_law_things", "_law_path"] (defScope s_l_tellings) := ⟨rfl, rfl, rfl, by decide +kernel, rfl, by decide +kernel, by decide +kernel⟩
set_option maxHeartbeats 4000000 in
theorem tls_step {d : Nat} (F : Fun K "_law_tellings" "_law_tellings" s_l_tellings f fd) (GS : Def P w K mg base CX0 1 "_law_shapes" ["_law_thing"] spShapes) (G : Def P w K mg base CX0 (d + 1) "_law_tellings" ["_law_things", "_law_path"] (spTls d)) : FnOk P w K mg base CX0 (d + 2) f fd ["_law_things", "_law_path"] (spTls (d + 1)) := by
  refine F.ok scTls (fun vs H Q E h => ?_) (fun cdv A outer s H vs Q E hr h => ?_)
  · obtain ⟨b, a, zs, fo, p, ws, rfl, _⟩ := h
    rfl
  obtain ⟨db, a, zs0, fo, p, ws, rfl, hdb, h3, ha, hd, hlen, hpl, hmn, hok, q⟩ := h
  refine ⟨_, pss_cons (ps_set (i := 2) scTls.nd rfl (Or.inl rfl) (pe_lst pa_nil))
    (pss_cons (ps_for PassesOwn.never rfl (pi_tup (pv 0)) (pg_name (i := 3) scTls.nd rfl (Or.inl rfl))
      (pss_cons (ps_if (pt_cmpR op_eq (pe_ix ix_tup (pv 3) pe_int (fun _ _ => rfl)) pe_str (nomark _))
        (pss_one (ps_expr (pe_bm PySem.F.plainAttrs_list PySem.F.slot_list_append PySem.F.type_list_append mt_append (pv 2) (pa_cons (pe_tup (pa_cons (pe_ix ix_tup (pv 3) pe_int (fun _ _ => rfl)) (pa_cons (pe_ix ix_tup (pv 3) pe_int (fun _ _ => rfl)) (pa_cons (pv 1) (pa_cons (pe_def GS (hr.mono (by omega)) (pa_cons (pv 3) pa_nil)) pa_nil))))) pa_nil)))) pss_nil)
      (pss_one (ps_if (pt_cmpR op_eq (pe_ix ix_tup (pv 3) pe_int (fun _ _ => rfl)) pe_str (nomark _))
        (pss_one (ps_set (i := 2) scTls.nd rfl (Or.inl rfl) (pe_op op_cat (pv 2) (pe_def G hr (pa_cons (pe_ix ix_tup (pv 3) pe_int (fun _ _ => rfl)) (pa_cons (pe_op op_catX (pv 1) (pe_tup (pa_cons (pe_ix ix_tup (pv 3) pe_int (fun _ _ => rfl)) pa_nil))) pa_nil)))))) pss_nil))))
    (pss_one (ps_ret (pv 2)))), ?_⟩
  have hb := big
  have hths := fR_iff.mp h3
  refine ⟨(by show 0 ≤ sizeLine; decide), fun l hl => ?_⟩
  have g1 := same_new hl (.lst [])
  have e1 : upd H l (.lst []) l = some (.lst []) := upd_same
  generalize upd H l (.lst []) = H1 at g1 e1 ⊢
  refine ⟨_, rfl, db, rfl, ⟨_, SqT.of (g1 _ _ hdb)⟩, ?_⟩
  refine for_tup (K := K) (a := db) (xs := zs0) (fun i σ' H' => ∃ (zs : List V) (r : Addr) (u : Option V), σ' = [some (.ref db), some (.ref a), some (.ref r), u] ∧ Same H H' ∧ H r = none ∧ H' r = some (.lst zs) ∧ Paired (tlN r H') ((fo.ths.take i).flatMap (tlT p)) zs) ?_ (fun i σ' H' _ h => by obtain ⟨zs, r, u, _, g, _⟩ := h; exact SqT.of (g _ _ hdb)) ?_ ?_
  · exact ⟨[], l, none, rfl, g1, hl, e1, .nil⟩
  · rintro i v σ' H' hi ⟨zs, r, u, rfl, g, hrn, hr2, hzs⟩
    obtain ⟨th, hth, hv⟩ := paired_get hths hi
    have hv' := hv.mono g.t
    have hsz : zs.length ≤ 1000 := by
      rw [← Paired.length hzs]
      exact Nat.le_trans (tls_le i) hlen
    have hmem := List.mem_of_getElem? hth
    obtain ⟨va, vx, ev, hva, hk0, _⟩ := thR_head hv'
    rw [tls_take hth]
    have ek : ∀ x : Str, decide (V.str (knd th) = V.str x) = true → knd th = x := fun x z => V.str.inj (of_decide_eq_true z)
    cases th with
    | say n ws' =>
      subst ev
      refine ⟨_, rfl, va, _, _, _, rfl, rfl, SqT.of hva, hk0, rfl, _, rfl, ?_⟩
      rw [show decide (V.str (knd (.say n ws')) = V.str "tell") = false from (by decide : decide (V.str "say" = V.str "tell") = false)]
      refine iteF ⟨_, rfl, va, _, _, _, rfl, rfl, SqT.of hva, hk0, rfl, _, rfl, ?_⟩
      rw [show decide (V.str (knd (.say n ws')) = V.str "part") = false from (by decide : decide (V.str "say" = V.str "part") = false)]
      refine iteF ⟨zs, r, _, rfl, g, hrn, hr2, ?_⟩
      show Paired _ (_ ++ []) zs
      rw [List.append_nil]
      exact hzs
    | tell n sc ph bs ms =>
      subst ev
      refine ⟨_, rfl, va, _, _, _, rfl, rfl, SqT.of hva, hk0, rfl, _, rfl, ?_⟩
      rw [show decide (V.str (knd (.tell n sc ph bs ms)) = V.str "tell") = true from (by decide : decide (V.str "tell" = V.str "tell") = true)]
      have hto : TlOk ws sc ph bs ms := hok _ (ord_of_ths hmem (List.mem_cons_self))
      obtain ⟨hsc, hp4, hpw, hb5, ⟨p0, last, eph, hbd⟩, _⟩ := hto
      have hlw : last ∈ ws := hpw last (by rw [eph]; exact List.mem_append_right _ List.mem_cons_self)
      have hv2 : tellR H' n sc ph bs ms (.ref va) := hv'
      obtain ⟨a2, x, y, z, ea2, h2, k1, k2, k3⟩ := id hv2
      cases ea2
      refine iteT ⟨_, rfl, .inl ⟨rfl, _, SqL.of hr2⟩, _, rfl, va, _, _, _, rfl, rfl, SqT.of h2, rfl, _, rfl, va, _, _, _, rfl, rfl, SqT.of h2, rfl, _, rfl, _, rfl, .ref va, n, sc, p0, last, bs, ms, rfl, by rw [← eph]; exact hv2, by rw [eph, List.length_append, List.length_singleton] at hp4; omega, hb5, bsLen_of hmn.wd hlw hbd, fun sl ys H2 g2 hsn hs2 hys => ?_⟩
      refine ⟨(by show 4 ≤ sizeLine; decide), fun t1 ht1 => ?_⟩
      have g3 := same_new ht1 (.tup [.int n, .str sc, .ref a, .ref sl])
      have e3 : upd H2 t1 (.tup [.int n, .str sc, .ref a, .ref sl]) t1 = some (.tup [.int n, .str sc, .ref a, .ref sl]) := upd_same
      generalize upd H2 t1 (.tup [.int n, .str sc, .ref a, .ref sl]) = H3 at g3 e3 ⊢
      have g23 := g2.trans g3
      have hr3 := g23 _ _ hr2
      refine ⟨r, _, _, rfl, rfl, hr3, by omega, ?_⟩
      have nsl : sl ≠ r := fun e => by rw [e, hr2] at hsn; cases hsn
      have new : tlN r H3 (n, sc, p, shT ph bs) (.ref t1) := ⟨t1, a, sl, ys, rfl, e3, g23 _ _ (g _ _ ha), g3 _ _ hs2, by rw [eph]; exact hys.mono g3.t, nsl⟩
      have t4 : TSame H3 (upd H3 r (.lst (zs ++ [.ref t1]))) := TSame.lst hr3
      have hva4 := t4 _ _ (g23 _ _ h2)
      have all4 : Paired (tlN r (upd H3 r (.lst (zs ++ [.ref t1])))) ((fo.ths.take i).flatMap (tlT p) ++ [(n, sc, p, shT ph bs)]) (zs ++ [.ref t1]) := paired_snoc (Paired.mapP hzs fun _ _ z => (z.mono g23).upd hr3) (new.upd hr3)
      have s4 : Same H (upd H3 r (.lst (zs ++ [.ref t1]))) := keep_upd hrn (g.trans g23) _
      have r4 : (upd H3 r (.lst (zs ++ [.ref t1]))) r = some (.lst (zs ++ [.ref t1])) := upd_same
      generalize upd H3 r (.lst (zs ++ [.ref t1])) = H4 at hva4 all4 s4 r4
      refine ⟨_, rfl, va, _, _, _, rfl, rfl, SqT.of hva4, rfl, rfl, _, rfl, ?_⟩
      rw [show decide (V.str "tell" = V.str "part") = false by decide]
      exact iteF ⟨_, r, _, rfl, s4, hrn, r4, all4⟩
    | part n i2 =>
      subst ev
      refine ⟨_, rfl, va, _, _, _, rfl, rfl, SqT.of hva, hk0, rfl, _, rfl, ?_⟩
      rw [show decide (V.str (knd (.part n i2)) = V.str "tell") = false from (by decide : decide (V.str "part" = V.str "tell") = false)]
      refine iteF ⟨_, rfl, va, _, _, _, rfl, rfl, SqT.of hva, hk0, rfl, _, rfl, ?_⟩
      rw [show decide (V.str (knd (.part n i2)) = V.str "part") = true from (by decide : decide (V.str "part" = V.str "part") = true)]
      obtain ⟨a2, b2, zs2, ea2, h2, k2, k3⟩ := hv'
      cases ea2
      have hdk := dep_of_mem hmem
      have hkl : i2.ord.length ≤ fo.ord.length := by
        have : (Th.part n i2).ord.Sublist fo.ord := by rw [ord_flat fo]; exact List.sublist_flatten_of_mem (List.mem_map.mpr ⟨_, hmem, rfl⟩)
        have := this.length_le
        rw [show (Th.part n i2).ord = Th.part n i2 :: i2.ord from rfl, List.length_cons] at this
        omega
      refine iteT ⟨_, rfl, _, rfl, va, _, _, _, rfl, rfl, SqT.of h2, rfl, _, rfl, _, rfl, va, _, _, _, rfl, rfl, SqT.of h2, rfl, (by show 1 ≤ sizeLine; decide), fun t2 ht2 => ?_⟩
      have g3 := same_new ht2 (.tup [.int n])
      have e3 : upd H' t2 (.tup [.int n]) t2 = some (.tup [.int n]) := upd_same
      generalize upd H' t2 (.tup [.int n]) = H3 at g3 e3 ⊢
      refine ⟨a, t2, _, _, rfl, rfl, g3 _ _ (g _ _ ha), e3, by rw [List.length_map]; show p.length + 1 ≤ sizeLine; omega, fun t3 H4 g4 h4 => ?_⟩
      have h4' : iT H4 t3 (p ++ [n]) := by
        show H4 t3 = _
        rw [List.map_append]
        exact h4
      have g34 := g3.trans g4
      refine ⟨b2, t3, zs2, i2, p ++ [n], ws, rfl, g34 _ _ k2, fR_mono g34.t k3, h4', by omega, by omega, by rw [List.length_append, List.length_singleton]; omega, hmn, fun u hu => hok u (ord_of_ths hmem (List.mem_cons_of_mem _ hu)), fun r5 xs5 H5 g5 hr5 e5 hx5 => ?_⟩
      have g35 := g34.trans g5
      have xl : xs5.length ≤ 1000 := by
        rw [← Paired.length hx5]
        exact Nat.le_trans (tls_len _ _) (by omega)
      refine ⟨r, r5, _, _, rfl, rfl, g35 _ _ hr2, e5, by omega, fun r6 hr6 => ?_⟩
      refine ⟨_, r6, _, rfl, (g.trans g35).trans (same_new hr6 _), (g.trans g35).free hr6, upd_same, ?_⟩
      exact paired_app (Paired.mapP hzs fun _ _ z => (z.mono g35).r.new hr6) (Paired.mapP hx5 fun _ _ z => z.new hr6)
  · rintro σ' H' ⟨zs, r, u, rfl, g, hrn, hr2, hzs⟩
    have el : zs0.length = fo.ths.length := (Paired.length hths).symm
    rw [el, List.take_length, ← tls_flat] at hzs
    exact ⟨_, rfl, q r zs H' g hrn hr2 (Paired.mapP hzs fun _ _ z => z.r)⟩
theorem ok_tls (F : Fun K "_law_tellings" "_law_tellings" s_l_tellings f fd) (b : Binds K fd ["_law_things", "_law_path"] []) (kp : PySem.W.keepIn K (.ref f) = true) (hm : mg "_law_tellings" = some (.ref f)) (GS : Def P w K mg base CX0 1 "_law_shapes" ["_law_thing"] spShapes) : ∀ d, FnOk P w K mg base CX0 (d + 1) f fd ["_law_things", "_law_path"] (spTls d)
  | 0 => fnok_false fun vs H Q E ⟨_, _, _, _, _, _, _, _, _, _, hd, _⟩ => absurd hd (Nat.not_lt_zero _)
  | d + 1 => tls_step F GS (Def.mk' (ok_tls F b kp hm GS d) b kp hm)
end
end D
namespace D
open PySem L2
def inr (l : List Str) : List Key := l.map Sum.inr
theorem inr_kV (l : List Str) : (inr l).map kV = l.map V.str := by unfold inr; rw [List.map_map]; rfl
theorem inr_inj : ∀ {a b : List Str}, inr a = inr b → a = b
  | [], [], _ => rfl
  | [], _ :: _, h => by cases h
  | _ :: _, [], h => by cases h
  | x :: a, y :: b, h => by
    obtain ⟨h1, h2⟩ := List.cons.inj (show (Sum.inr x : Key) :: inr a = Sum.inr y :: inr b from h)
    rw [Sum.inr.inj h1, inr_inj h2]
section
variable {α : Type}
abbrev Tab (α : Type) := List (List Str × α)
def lookA (T : Tab α) (k : List Str) : Option α := (T.find? fun t => decide (t.1 = k)).map (·.2)
def putA (T : Tab α) (k : List Str) (v : α) : Tab α := if (T.any fun t => decide (t.1 = k)) = true then T.map (fun t => if t.1 = k then (t.1, v) else t) else T ++ [(k, v)]
theorem look_cons (t : List Str × α) (T : Tab α) (k : List Str) : lookA (t :: T) k = if t.1 = k then some t.2 else lookA T k := by
  unfold lookA
  rw [List.find?_cons]
  by_cases h : t.1 = k
  · rw [if_pos h, decide_eq_true h] <;> rfl
  · rw [if_neg h, decide_eq_false h]
theorem look_any (k : List Str) : ∀ T : Tab α, (T.any fun t => decide (t.1 = k)) = (lookA T k).isSome
  | [] => rfl
  | t :: T => by
    rw [List.any_cons, look_cons, look_any k T]
    by_cases h : t.1 = k
    · rw [if_pos h, decide_eq_true h] <;> rfl
    · rw [if_neg h, decide_eq_false h] <;> rfl
theorem look_map (k j : List Str) (v : α) : ∀ T : Tab α, lookA (T.map fun t => if t.1 = k then (t.1, v) else t) j = (lookA T j).map fun x => if j = k then v else x
  | [] => rfl
  | t :: T => by
    rw [List.map_cons, look_cons, look_cons, look_map k j v T]
    by_cases h : t.1 = k
    · rw [if_pos h]
      by_cases h2 : t.1 = j
      · rw [if_pos h2, if_pos h2]
        show _ = some (if j = k then v else t.2)
        rw [if_pos (h2.symm.trans h)]
      · rw [if_neg h2, if_neg h2]
    · rw [if_neg h]
      by_cases h2 : t.1 = j
      · rw [if_pos h2, if_pos h2]
        show _ = some (if j = k then v else t.2)
        rw [if_neg (fun z => h (h2.trans z))]
      · rw [if_neg h2, if_neg h2]
theorem look_snoc (k j : List Str) (v : α) : ∀ T : Tab α, lookA T k = none → lookA (T ++ [(k, v)]) j = if j = k then some v else lookA T j
  | [], _ => by
    show lookA [(k, v)] j = _
    rw [look_cons]
    by_cases h : j = k
    · rw [if_pos h, if_pos h.symm]
    · rw [if_neg h, if_neg (fun z => h z.symm)]
  | t :: T, h0 => by
    rw [look_cons] at h0
    rw [List.cons_append, look_cons, look_cons]
    by_cases h : t.1 = k
    · rw [if_pos h] at h0
      cases h0
    · rw [if_neg h] at h0
      rw [look_snoc k j v T h0]
      by_cases h2 : t.1 = j
      · rw [if_pos h2, if_pos h2, if_neg (fun z => h (h2.trans z))]
      · rw [if_neg h2, if_neg h2]
theorem look_put (T : Tab α) (k j : List Str) (v : α) : lookA (putA T k v) j = if j = k then some v else lookA T j := by
  unfold putA
  rw [look_any]
  cases h : lookA T k with
  | none =>
    rw [if_neg (show ¬ (none : Option α).isSome = true from fun z => nomatch z)]
    exact look_snoc k j v T h
  | some x =>
    rw [if_pos (show (some x).isSome = true from rfl), look_map]
    by_cases e : j = k
    · subst e
      rw [h, if_pos rfl]
      show some (if j = j then v else x) = _
      rw [if_pos rfl]
    · rw [if_neg e]
      cases lookA T j with
      | none => rfl
      | some y =>
        show some (if j = k then v else y) = _
        rw [if_neg e]
def keysA (T : Tab α) : List (List Str) := T.map (·.1)
theorem keys_look (T : Tab α) (k : List Str) : k ∈ keysA T ↔ (lookA T k).isSome = true := by
  induction T with
  | nil => exact ⟨(fun h => nomatch h), (fun h => nomatch h)⟩
  | cons t T ih =>
    rw [look_cons]
    show k ∈ t.1 :: keysA T ↔ _
    by_cases h : t.1 = k
    · rw [if_pos h]
      exact ⟨fun _ => rfl, fun _ => by rw [h]; exact List.mem_cons_self⟩
    · rw [if_neg h, ← ih]
      exact ⟨fun z => (List.mem_cons.mp z).resolve_left (fun y => h y.symm), List.mem_cons_of_mem _⟩
theorem keys_put (T : Tab α) (k : List Str) (v : α) (h : (keysA T).Nodup) : (keysA (putA T k v)).Nodup := by
  unfold putA
  by_cases e : (T.any fun t => decide (t.1 = k)) = true
  · rw [if_pos e]
    have : keysA (T.map fun t => if t.1 = k then (t.1, v) else t) = keysA T := by
      unfold keysA
      rw [List.map_map]
      refine List.map_congr_left fun t _ => ?_
      show (if t.1 = k then (t.1, v) else t).1 = t.1
      split <;> rfl
    rw [this]
    exact h
  · rw [if_neg e]
    unfold keysA
    rw [List.map_append]
    refine List.nodup_append.mpr ⟨h, by simp, fun x hx y hy z => ?_⟩
    rw [look_any] at e
    rw [show ([(k, v)] : Tab α).map (·.1) = [k] from rfl] at hy
    rw [List.mem_singleton.mp hy] at z
    exact e ((keys_look T k).mp (by rw [← z]; exact hx))
theorem put_len (T : Tab α) (k : List Str) (v : α) : (putA T k v).length ≤ T.length + 1 := by
  unfold putA
  by_cases e : (T.any fun t => decide (t.1 = k)) = true
  · rw [if_pos e, List.length_map]; omega
  · rw [if_neg e, List.length_append]; exact Nat.le_refl _
def enR (R : Hp → α → V → Prop) (H : Hp) (t : List Str × α) (kv : List Key × V) : Prop := kv.1 = inr t.1 ∧ R H t.2 kv.2
abbrev tabR (R : Hp → α → V → Prop) (H : Hp) : Tab α → List (List Key × V) → Prop := Paired (enR R H)
variable {R : Hp → α → V → Prop} {H H' : Hp}
theorem tab_mono {T : Tab α} {kvs : List (List Key × V)} (h : tabR R H T kvs) (g : ∀ a v, R H a v → R H' a v) : tabR R H' T kvs := Paired.mapP h fun _ _ z => ⟨z.1, g _ _ z.2⟩
theorem tab_key {t : List Str × α} {kv : List Key × V} (h : enR R H t kv) (k : List Str) : decide (kv.1 = inr k) = decide (t.1 = k) := by
  by_cases e : t.1 = k
  · rw [decide_eq_true e, decide_eq_true (by rw [h.1, e])]
  · rw [decide_eq_false e, decide_eq_false (fun z => e (inr_inj (h.1.symm.trans z)))]
theorem tab_any {k : List Str} : ∀ {T : Tab α} {kvs : List (List Key × V)}, tabR R H T kvs → (kvs.any fun kv => decide (kv.1 = inr k)) = T.any fun t => decide (t.1 = k)
  | _, _, .nil => rfl
  | _, _, .cons h r => by rw [List.any_cons, List.any_cons, tab_key h, tab_any r]
theorem tab_repl {k : List Str} {v : α} {x : V} (hp : R H v x) : ∀ {T : Tab α} {kvs : List (List Key × V)}, tabR R H T kvs → tabR R H (T.map fun t => if t.1 = k then (t.1, v) else t) (kvs.map fun kv => if kv.1 = inr k then (kv.1, x) else kv)
  | _, _, .nil => .nil
  | _, _, .cons (a := t) (b := kv) h r => by
    refine .cons ?_ (tab_repl hp r)
    show enR R H (if t.1 = k then (t.1, v) else t) (if kv.1 = inr k then (kv.1, x) else kv)
    by_cases e : t.1 = k
    · rw [if_pos e, if_pos (by rw [h.1, e])]
      exact ⟨h.1, hp⟩
    · rw [if_neg e, if_neg (fun z => e (inr_inj (h.1.symm.trans z)))]
      exact h
theorem tab_put {T : Tab α} {kvs : List (List Key × V)} {k : List Str} {v : α} {x : V} (h : tabR R H T kvs) (hp : R H v x) : tabR R H (putA T k v) (putK kvs (inr k) x) := by
  unfold putA putK
  rw [tab_any h]
  by_cases e : (T.any fun t => decide (t.1 = k)) = true
  · rw [if_pos e, if_pos e]
    exact tab_repl hp h
  · rw [if_neg e, if_neg e]
    exact paired_snoc h ⟨rfl, hp⟩
theorem tab_look {k : List Str} : ∀ {T : Tab α} {kvs : List (List Key × V)}, tabR R H T kvs → (lookA T k = none ∧ valV kvs (inr k) = none) ∨ ∃ v x, lookA T k = some v ∧ valV kvs (inr k) = some x ∧ R H v x
  | _, _, .nil => .inl ⟨rfl, rfl⟩
  | t :: T, kv :: kvs, .cons h r => by
    by_cases z : t.1 = k
    · refine .inr ⟨t.2, kv.2, by rw [look_cons, if_pos z], valV_pos (by rw [h.1, z]), h.2⟩
    · rw [look_cons, if_neg z, valV_neg (fun y => z (inr_inj (h.1.symm.trans y)))]
      exact tab_look r
theorem tab_get : ∀ {T : Tab α} {kvs : List (List Key × V)}, tabR R H T kvs → ∀ {i : Nat} {k : List Key} {x : V}, kvs[i]? = some (k, x) → ∃ t, T[i]? = some t ∧ k = inr t.1 ∧ R H t.2 x
  | _, _, .nil, i, k, x, h => by rw [List.getElem?_nil] at h; cases h
  | _, _, .cons a r, 0, k, x, h => ⟨_, rfl, by cases h; exact a.1, by cases h; exact a.2⟩
  | _, _, .cons a r, i + 1, k, x, h => tab_get r h
theorem look_mem {T : Tab α} (hn : (keysA T).Nodup) {t : List Str × α} (h : t ∈ T) : lookA T t.1 = some t.2 := by
  induction T with
  | nil => cases h
  | cons u T ih =>
    have hn' : (u.1 :: keysA T).Nodup := hn
    obtain ⟨h1, h2⟩ := List.nodup_cons.mp hn'
    rw [look_cons]
    rcases List.mem_cons.mp h with e | e
    · rw [e, if_pos rfl]
    · rw [if_neg (fun z => h1 (by rw [z]; exact List.mem_map.mpr ⟨t, e, rfl⟩))]
      exact ih h2 e
end
def forceD (sc : Str) (p pl : List Int) : Int := if sc = "part" ∧ pl.take p.length = p then 1 + p.length else if sc = "here" ∧ pl = p then 100 else if sc = "all" then 1 else if sc = "else" then 0 else -1
def spForce : Sp := fun vs H Q _ => ∃ (sc : Str) (a b : Addr) (p pl : List Int), vs = [.str sc, .ref a, .ref b] ∧ iT H a p ∧ iT H b pl ∧ p.length ≤ 1000 ∧ pl.length ≤ 1000 ∧ ∀ H', Same H H' → Q (.int (forceD sc p pl)) H'
theorem tupI {K : PySem.W.Frag} {H : Hp} {a : Addr} {xs : List Int} (h : iT H a xs) : tupR K intR H xs (.ref a) := ⟨a, _, rfl, SqT.of h, paired_map (F := intR H) (f := V.int) (fun _ => rfl) xs⟩
section
variable {P : Program} {w : World} {K : PySem.W.Frag} {mg : Str → Option Value} {base : Heap} {f : Addr} {fd : FuncData}
theorem scForce : FnScope ["_law_scope", "_law_path", "_law_place"] ["_law_scope", "_law_path", "_law_place"] (defScope s_l_force) := ⟨rfl, rfl, rfl, by decide +kernel, rfl, by decide +kernel, by decide +kernel⟩
set_option maxHeartbeats 4000000 in
theorem ok_force (F : Fun K "_law_force" "_law_force" s_l_force f fd) (T : Nm mg) : FnOk P w K mg base CX0 1 f fd ["_law_scope", "_law_path", "_law_place"] spForce := by
  refine F.ok scForce (fun vs H Q E h => ?_) (fun cdv A outer s H vs Q E hr h => ?_)
  · obtain ⟨sc, a, b, p, pl, rfl, _⟩ := h
    rfl
  obtain ⟨sc, a, b, p, pl, rfl, ha, hb, l1, l2, q⟩ := h
  have hu : (A.deeper (PyProof.Rows.envOfC "_law_force" (defScope s_l_force) s.heap.objs.size f cdv)).units < cLine := hr.units0
  refine ⟨_, pss_cons (ps_if (PW.pt (pw_and (pt_cmpR op_eq (pv 0) pe_str (nomark _)) (pw_and1 (pt_cmpR (op_eqTup eqok_int hu) (pe_slice sl_tupX (pv 2) po_none (po_some (pe_callB call_len_seq rfl T.len PySem.boot_len (pa_cons (pv 1) pa_nil)))) (pv 1) (nomark _))))) (pss_one (ps_ret (pe_op op_add pe_int (pe_callB call_len_seq rfl T.len PySem.boot_len (pa_cons (pv 1) pa_nil))))) pss_nil)
    (pss_cons (ps_if (PW.pt (pw_and (pt_cmpR op_eq (pv 0) pe_str (nomark _)) (pw_and1 (pt_cmpR (op_eqTup eqok_int hu) (pv 2) (pv 1) (nomark _))))) (pss_one (ps_ret pe_int)) pss_nil)
    (pss_cons (ps_if (pt_cmpR op_eq (pv 0) pe_str (nomark _)) (pss_one (ps_ret pe_int)) pss_nil)
    (pss_one (ps_ret (pe_op op_sub (pe_callTy call_int1 rfl T.int PyProof.Rows.boot_int (pa_cons (pe_cmpR op_eq (pv 0) pe_str (nomark _)) pa_nil)) pe_int))))), ?_⟩
  have es : ∀ x : Str, decide (V.str sc = V.str x) = decide (sc = x) := fun x => by
    by_cases h : sc = x
    · rw [h]; simp
    · rw [decide_eq_false h, decide_eq_false (fun z => h (V.str.inj z))]
  have same0 : ∀ {H1 : Hp} (b : Bool) (Q : Bool → Hp → Prop), (∀ H', Same H1 H' → Q b H') → Q b H1 := fun b Q q => q _ (Same.refl _)
  refine seqif_sm (decide (sc = "part") && decide (pl.take p.length = p)) (and_sm _ _ (fun Q q => ⟨_, rfl, rfl, _, rfl, by rw [es]; exact q _ (Same.refl _)⟩) (fun _ H1 g1 Q q => ⟨_, rfl, np_rdB ⟨_, rfl, a, _, rfl, .inr (SqT.of (g1 _ _ ha)), _, rfl, b, _, rfl, g1 _ _ hb, fun p8 H8 g8 h8 => ?_⟩⟩)) (fun z H1 g1 => ?_) (fun z H1 g1 => ?_)
  · have h8 : H8 p8 = some (.tup (cutV (pl.map V.int) none (some (((p.map V.int).length : Nat) : Int)))) := h8
    rw [List.length_map, cutV_to, ← List.map_take] at h8
    exact ⟨_, rfl, pl.take p.length, p, tupI h8, tupI (g8 _ _ (g1 _ _ ha)), _, rfl, q _ g8⟩
  · have z1 := of_decide_eq_true (Bool.and_eq_true_iff.mp z).1
    have z2 := of_decide_eq_true (Bool.and_eq_true_iff.mp z).2
    have e : forceD sc p pl = 1 + p.length := if_pos ⟨z1, z2⟩
    refine ⟨_, rfl, a, _, rfl, .inr (SqT.of (g1 _ _ ha)), _, _, rfl, rfl, ?_⟩
    have q2 := q _ g1
    rw [e] at q2
    rw [List.length_map]
    exact q2
  · have n1 : ¬ (sc = "part" ∧ pl.take p.length = p) := fun ⟨x, y⟩ => by
      rw [decide_eq_true x, decide_eq_true y] at z
      cases z
    refine seqif_sm (decide (sc = "here") && decide (pl = p)) (and_sm _ _ (fun Q q => ⟨_, rfl, rfl, _, rfl, by rw [es]; exact q _ (Same.refl _)⟩) (fun _ H2 g2 Q q => ⟨_, rfl, _, rfl, pl, p, tupI (g2 _ _ (g1 _ _ hb)), tupI (g2 _ _ (g1 _ _ ha)), _, rfl, q _ (Same.refl _)⟩)) (fun y H2 g2 => ?_) (fun y H2 g2 => ?_)
    · have y1 := of_decide_eq_true (Bool.and_eq_true_iff.mp y).1
      have y2 := of_decide_eq_true (Bool.and_eq_true_iff.mp y).2
      have e : forceD sc p pl = 100 := by unfold forceD; rw [if_neg n1, if_pos ⟨y1, y2⟩]
      have q2 := q _ (g1.trans g2)
      rw [e] at q2
      exact q2
    · have n2 : ¬ (sc = "here" ∧ pl = p) := fun ⟨x, y'⟩ => by
        rw [decide_eq_true x, decide_eq_true y'] at y
        cases y
      have g12 := g1.trans g2
      refine seqif_sm (decide (sc = "all")) (fun Q q => ⟨_, rfl, rfl, _, rfl, by rw [es]; exact q _ (Same.refl _)⟩) (fun x H3 g3 => ?_) (fun x H3 g3 => ?_)
      · have e : forceD sc p pl = 1 := by unfold forceD; rw [if_neg n1, if_neg n2, if_pos (of_decide_eq_true x)]
        have q2 := q _ (g12.trans g3)
        rw [e] at q2
        exact q2
      · have n3 : ¬ sc = "all" := of_decide_eq_false x
        have q2 := q _ (g12.trans g3)
        refine ⟨_, rfl, rfl, .inr ⟨_, rfl, _, _, rfl, rfl, ?_⟩⟩
        unfold forceD at q2
        rw [if_neg n1, if_neg n2, if_neg n3] at q2
        rw [es]
        by_cases h : sc = "else"
        · rw [if_pos h] at q2
          rw [if_pos (decide_eq_true h)]
          exact q2
        · rw [if_neg h] at q2
          rw [if_neg (fun z => h (of_decide_eq_true z))]
          exact q2
end
end D
namespace D
open PySem L2
abbrev Best := Tab (Int × List Int)
def sortI (ns : List Int) : List Int := ns.mergeSort fun a b => decide (a ≤ b)
theorem sortI_eq {ns ns' : List Int} (p : ns'.Perm ns) (h : ns'.Pairwise (· ≤ ·)) : ns' = sortI ns := by
  have h2 : (sortI ns).Pairwise (· ≤ ·) := by
    have := List.pairwise_mergeSort (le := fun a b : Int => decide (a ≤ b)) (fun a b c h1 h2 => decide_eq_true (Int.le_trans (of_decide_eq_true h1) (of_decide_eq_true h2))) (fun a b => by
      rcases Int.le_total a b with z | z
      · rw [decide_eq_true z]; rfl
      · rw [decide_eq_true z]; exact Bool.or_true _) ns
    exact this.imp fun z => of_decide_eq_true z
  exact List.Perm.eq_of_pairwise (fun a b _ _ h1 h2 => Int.le_antisymm h1 h2) h h2 (p.trans (List.mergeSort_perm ns _).symm)
def getB (B : Best) (k : List Str) : Int × List Int := (lookA B k).getD (0, [])
def stepB (fo n : Int) (B : Best) (k : List Str) : Best := if 0 ≤ fo ∧ (getB B k).1 ≤ fo then putA B k (fo, (if (getB B k).1 < fo then [] else (getB B k).2) ++ [n]) else B
def tellB (pl : List Int) (B : Best) (t : Tl) : Best := t.2.2.2.foldl (stepB (forceD t.2.1 t.2.2.1 pl) t.1) B
def bestD (pl : List Int) (ts : List Tl) : Best := ts.foldl (tellB pl) []
def dueE (b : List Str × (Int × List Int)) : List Str × List Int := (b.1, sortI b.2.2)
def winD (pl : List Int) (ts : List Tl) : Tab (List Int) := (bestD pl ts).map dueE
def beR (H : Hp) (b : Int × List Int) (v : V) : Prop := ∃ p l, v = .ref p ∧ H p = some (.tup [.int b.1, .ref l]) ∧ H l = some (.lst (b.2.map V.int))
theorem beR.mono {H H' : Hp} {b : Int × List Int} {v : V} (h : beR H b v) (g : Same H H') : beR H' b v := let ⟨p, l, e, h1, h2⟩ := h; ⟨p, l, e, g _ _ h1, g _ _ h2⟩
theorem beR.upd {H : Hp} {d : Addr} {kvs : List (List Key × V)} {o : HO} {b : Int × List Int} {v : V} (h : beR H b v) (hd : H d = some (.dT kvs)) : beR (L2.upd H d o) b v := by
  obtain ⟨p, l, e, h1, h2⟩ := h
  exact ⟨p, l, e, by rw [upd_ne (ne_of h1 hd (fun z => nomatch z))]; exact h1, by rw [upd_ne (ne_of h2 hd (fun z => nomatch z))]; exact h2⟩
def wnR (H : Hp) (ns : List Int) (v : V) : Prop := ∃ p, v = .ref p ∧ H p = some (.tup (ns.map V.int))
theorem wnR.mono {H H' : Hp} {ns : List Int} {v : V} (h : wnR H ns v) (g : TSame H H') : wnR H' ns v := let ⟨p, e, h1⟩ := h; ⟨p, e, g _ _ h1⟩
structure TlsOk (ts : List Tl) : Prop where
  few : ts.length ≤ 25
  ok : ∀ t ∈ ts, t.2.2.2.Nodup ∧ t.2.2.2.length ≤ 6 ∧ t.2.2.1.length ≤ 1000
structure BOk (B : Best) (m : Nat) (c : List Str → Nat) : Prop where
  nd : (keysA B).Nodup
  len : B.length ≤ m
  few : ∀ k b, lookA B k = some b → b.2.length ≤ c k
theorem BOk.step {B : Best} {m : Nat} {c : List Str → Nat} (h : BOk B m c) (fo n : Int) (k : List Str) : BOk (stepB fo n B k) (m + 1) (fun j => c j + if j = k then 1 else 0) := by
  unfold stepB
  by_cases e : 0 ≤ fo ∧ (getB B k).1 ≤ fo
  · rw [if_pos e]
    refine ⟨keys_put _ _ _ h.nd, Nat.le_trans (put_len _ _ _) (Nat.succ_le_succ h.len), fun j b hb => ?_⟩
    rw [look_put] at hb
    by_cases z : j = k
    · rw [if_pos z] at hb
      cases hb
      rw [if_pos z]
      have : (getB B k).2.length ≤ c k := by
        unfold getB
        cases q : lookA B k with
        | none => exact Nat.zero_le _
        | some b => exact h.few k b q
      subst z
      show ((if (getB B j).1 < fo then [] else (getB B j).2) ++ [n]).length ≤ _
      rw [List.length_append, List.length_singleton]
      split
      · show 0 + 1 ≤ _; omega
      · omega
    · rw [if_neg z] at hb
      have := h.few j b hb
      omega
  · rw [if_neg e]
    exact ⟨h.nd, Nat.le_succ_of_le h.len, fun j b hb => by have := h.few j b hb; omega⟩
theorem BOk.mono {B : Best} {m m' : Nat} {c c' : List Str → Nat} (h : BOk B m c) (hm : m ≤ m') (hc : ∀ k, c k ≤ c' k) : BOk B m' c' := ⟨h.nd, Nat.le_trans h.len hm, fun k b hb => Nat.le_trans (h.few k b hb) (hc k)⟩
theorem count_take {L : List (List Str)} (h : L.Nodup) (k : List Str) : L.count k ≤ 1 := by
  rcases Nat.lt_or_ge (L.count k) 2 with z | z
  · omega
  · have := List.nodup_iff_count.mp h k
    omega
def spWin : Sp := fun vs H Q _ => ∃ (ta pb : Addr) (ts : List Tl) (xs : List V) (pl : List Int), vs = [.ref ta, .ref pb] ∧ H ta = some (.lst xs) ∧ Paired (tlR H) ts xs ∧ iT H pb pl ∧ pl.length ≤ 1000 ∧ TlsOk ts ∧
  ∀ r kvs H', Same H H' → H r = none → H' r = some (.dT kvs) → tabR wnR H' (winD pl ts) kvs → (keysA (winD pl ts)).Nodup → (winD pl ts).length ≤ 150 → (∀ k w, lookA (winD pl ts) k = some w → w.length ≤ 25) → Q (.ref r) H'
theorem keys_due (B : Best) : keysA (B.map dueE) = keysA B := by unfold keysA; rw [List.map_map]; rfl
theorem look_due (k : List Str) : ∀ B : Best, lookA (B.map dueE) k = (lookA B k).map fun b => sortI b.2
  | [] => rfl
  | b :: B => by
    rw [List.map_cons, look_cons, look_cons, look_due k B]
    show (if b.1 = k then some (sortI b.2.2) else _) = _
    by_cases h : b.1 = k
    · rw [if_pos h, if_pos h] <;> rfl
    · rw [if_neg h, if_neg h]
theorem put_fresh {α : Type} {T : Tab α} {k : List Str} {v : α} (h : k ∉ keysA T) : putA T k v = T ++ [(k, v)] := by
  unfold putA
  rw [look_any, if_neg (fun z => h ((keys_look T k).mpr z))]
end D
namespace D
open PySem L2
theorem seqasg_tt {te : TE} {g : TG} {u : TS} {D : Ends} {σ : St} {H : Hp} (h : te σ H fun x H1 => g x σ H1 (u D)) : tSeq (tAsg te g) u D σ H := h
theorem not_take {α : Type} {l : List α} {i : Nat} {a : α} (h : l.Nodup) (e : l[i]? = some a) : a ∉ l.take i := fun z => by
  have hi := (List.getElem?_eq_some_iff.mp e).1
  have hd : l.drop i = a :: l.drop (i + 1) := by
    rw [List.drop_eq_getElem_cons hi, (List.getElem?_eq_some_iff.mp e).2]
  rw [← List.take_append_drop i l, hd] at h
  exact (List.nodup_append.mp h).2.2 a z a List.mem_cons_self rfl
section
variable {P : Program} {w : World} {K : PySem.W.Frag} {mg : Str → Option Value} {base : Heap} {f : Addr} {fd : FuncData}
theorem scWin : FnScope ["_law_tellings_here", "_law_place", "_law_best", "_law_number_here", "_law_scope", "_law_path", "_law_shapes_here", "_law_force_here", "_law_shape", "_law_there", "_law_due"] ["_law_tellings_here", "_law_place"] (defScope s_l_winners) := ⟨rfl, rfl, rfl, by decide +kernel, rfl, by decide +kernel, by decide +kernel⟩
theorem get_rd {H : Hp} {d p : Addr} {kvs : List (List Key × V)} {B : Best} {k : List Str} (hd : H d = some (.dT kvs)) (hB : tabR beR H B kvs) (hp : H p = some (.tup (k.map V.str))) {z : V} (hz : beR H (0, []) z) : ∃ o, DGet H d (.ref p) o ∧ beR H (getB B k) (o.getD z) := by
  refine ⟨valV kvs (inr k), DGet.t hd (by rw [inr_kV]; exact hp), ?_⟩
  unfold getB
  rcases tab_look (k := k) hB with ⟨e1, e2⟩ | ⟨v, x, e1, e2, r⟩
  · rw [e1, e2]; exact hz
  · rw [e1, e2]; exact r
set_option maxHeartbeats 16000000 in
theorem ok_win (F : Fun K "_law_winners" "_law_winners" s_l_winners f fd) (T : Nm mg) (ms : mg "sorted" = none) (GF : Def P w K mg base CX0 1 "_law_force" ["_law_scope", "_law_path", "_law_place"] spForce) : FnOk P w K mg base CX0 2 f fd ["_law_tellings_here", "_law_place"] spWin := by
  refine F.ok scWin (fun vs H Q E h => ?_) (fun cdv A outer s H vs Q E hr h => ?_)
  · obtain ⟨ta, pb, ts, xs, pl, rfl, _⟩ := h
    rfl
  obtain ⟨ta, pb, ts, xs, pl, rfl, hta, hts, hpb, hpl, hok, q⟩ := h
  have hu1 : (A.deeper (PyProof.Rows.envOfC "_law_winners" (defScope s_l_winners) s.heap.objs.size f cdv)).units + 1 < cLine := by have := hr.un; omega
  refine ⟨_, pss_cons (ps_set (i := 2) scWin.nd rfl (Or.inl rfl) pe_dnewT)
    (pss_cons (ps_for PassesOwn.never rfl (pi_list (pv 0)) (pg_tup rfl (pgs_cons (pg_name (i := 3) scWin.nd rfl (Or.inl rfl)) (pgs_cons (pg_name (i := 4) scWin.nd rfl (Or.inl rfl)) (pgs_cons (pg_name (i := 5) scWin.nd rfl (Or.inl rfl)) (pgs_cons (pg_name (i := 6) scWin.nd rfl (Or.inl rfl)) pgs_nil)))))
      (pss_cons (ps_set (i := 7) scWin.nd rfl (Or.inl rfl) (pe_def GF hr (pa_cons (pv 4) (pa_cons (pv 5) (pa_cons (pv 1) pa_nil)))))
      (pss_one (ps_for PassesOwn.never rfl (pi_list (pv 6)) (pg_name (i := 8) scWin.nd rfl (Or.inl rfl))
        (pss_one (ps_if (PW.pt (pw_and (pt_cmpR op_ge (pv 7) pe_int (nomark _)) (pw_and1 (pt_cmpR op_ge (pv 7) (pe_ix ix_tup (pe_dget2 hu1 (pv 2) (pv 8) (pe_tup (pa_cons pe_int (pa_cons (pe_lst pa_nil) pa_nil))) ⟨rfl, rfl, rfl, rfl⟩) pe_int (fun _ _ => rfl)) (nomark _)))))
          (pss_cons (ps_set (i := 9) scWin.nd rfl (Or.inl rfl) (pe_dget2 hu1 (pv 2) (pv 8) (pe_tup (pa_cons pe_int (pa_cons (pe_lst pa_nil) pa_nil))) ⟨rfl, rfl, rfl, rfl⟩))
          (pss_cons (ps_if (pt_cmpR op_gt (pv 7) (pe_ix ix_tup (pv 9) pe_int (fun _ _ => rfl)) (nomark _)) (pss_one (ps_set (i := 9) scWin.nd rfl (Or.inl rfl) (pe_tup (pa_cons (pv 7) (pa_cons (pe_lst pa_nil) pa_nil))))) pss_nil)
          (pss_one (ps_dput hu1 (pv 2) (pv 8) (pe_tup (pa_cons (pv 7) (pa_cons (pe_op op_cat (pe_ix ix_tup (pv 9) pe_int (fun _ _ => rfl)) (pe_lst (pa_cons (pv 3) pa_nil))) pa_nil))) rfl)))) pss_nil))))))
    (pss_cons (ps_set (i := 10) scWin.nd rfl (Or.inl rfl) pe_dnewT)
    (pss_cons (ps_forD PassesOwn.never rfl (pv 2) (pg_name (i := 8) scWin.nd rfl (Or.inl rfl))
      (pss_one (ps_dput hu1 (pv 10) (pv 8) (pe_callTy call_tuple_of rfl T.tuple PyProof.Rows.boot_tuple (pa_cons (pe_callB call_sorted rfl ms PyProof.Rows.boot_sorted (pa_cons (pe_ix ix_tup (pe_dget hu1 (pv 2) (pv 8) (fun _ _ => rfl)) pe_int (fun _ _ => rfl)) pa_nil)) pa_nil)) rfl)))
    (pss_one (ps_ret (pv 10))))))
    , ?_⟩
  have hb := big
  refine fun d hd0 => ?_
  have g0 := same_new hd0 (.dT [])
  have e0 : upd H d (.dT []) d = some (.dT []) := upd_same
  generalize upd H d (.dT []) = H0 at g0 e0 ⊢
  refine ⟨_, rfl, ta, rfl, ⟨_, SqL.of (g0 _ _ hta)⟩, ?_⟩
  refine for_list (K := K) (a := ta) (xs := xs) (fun i σ' H' => Same H H' ∧ ∃ (kvs : List (List Key × V)) (u3 u4 u5 u6 u7 u8 u9 : Option V), σ' = [some (.ref ta), some (.ref pb), some (.ref d), u3, u4, u5, u6, u7, u8, u9, none] ∧ H' d = some (.dT kvs) ∧ tabR beR H' ((ts.take i).foldl (tellB pl) []) kvs ∧ BOk ((ts.take i).foldl (tellB pl) []) (6 * i) (fun _ => i)) ?_ (fun i σ' H' _ h => SqL.of (h.1 _ _ hta)) ?_ ?_
  · exact ⟨g0, [], _, _, _, _, _, _, _, rfl, e0, .nil, ⟨List.nodup_nil, Nat.le_refl _, fun k b hb => nomatch hb⟩⟩
  · rintro i v σ' H1 hi ⟨g, kvs, u3, u4, u5, u6, u7, u8, u9, rfl, hd, hB, hBo⟩
    obtain ⟨t, et, htv⟩ := paired_get hts hi
    obtain ⟨n, sc, p, shs⟩ := t
    obtain ⟨o1, o2, o3⟩ := hok.ok _ (List.mem_of_getElem? et)
    have o1 : shs.Nodup := o1
    have o2 : shs.length ≤ 6 := o2
    have o3 : p.length ≤ 1000 := o3
    obtain ⟨va, pp, sl, ys, rfl, k1, k2, k3, k4⟩ := htv.mono g
    have hi25 : i < 25 := by
      have := (List.getElem?_eq_some_iff.mp et).1
      have := hok.few
      omega
    have eB : (ts.take (i + 1)).foldl (tellB pl) [] = shs.foldl (stepB (forceD sc p pl) n) ((ts.take i).foldl (tellB pl) []) := by
      rw [List.take_add_one, et, List.foldl_append] <;> rfl
    rw [eB]
    generalize (ts.take i).foldl (tellB pl) [] = B at hB hBo
    refine ⟨va, _, rfl, SqT.of k1, rfl, _, _, rfl, _, _, rfl, _, _, rfl, _, _, rfl, rfl, ?_⟩
    refine ⟨_, rfl, _, rfl, _, rfl, sc, pp, pb, p, pl, rfl, k2, g _ _ hpb, o3, hpl, fun H2 g2 => ?_⟩
    generalize forceD sc p pl = fo
    have hys := k4.mono g2.t
    refine ⟨_, rfl, sl, rfl, ⟨_, SqL.of (g2 _ _ k3)⟩, ?_⟩
    have hd2 := g2 _ _ hd
    have yl := Paired.length k4
    refine for_list (K := K) (a := sl) (xs := ys) (fun j σ' H' => Same H H' ∧ H' sl = some (.lst ys) ∧ phsR H' shs ys ∧ ∃ (kvs : List (List Key × V)) (u8 u9 : Option V), σ' = [some (.ref ta), some (.ref pb), some (.ref d), some (.int n), some (.str sc), some (.ref pp), some (.ref sl), some (.int fo), u8, u9, none] ∧ H' d = some (.dT kvs) ∧ tabR beR H' ((shs.take j).foldl (stepB fo n) B) kvs ∧ BOk ((shs.take j).foldl (stepB fo n) B) (6 * i + j) (fun k => i + (shs.take j).count k)) ?_ (fun j σ' H' _ h => SqL.of h.2.1) ?_ ?_
    · exact ⟨g.trans g2, g2 _ _ k3, hys, kvs, _, _, rfl, hd2, tab_mono hB fun _ _ z => z.mono g2, hBo.mono (Nat.le_refl _) fun k => Nat.le_refl _⟩
    · rintro j y σ' H3 hj ⟨g3, hsl, hph, kvs, u8, u9, rfl, hd3, hB3, hBo3⟩
      obtain ⟨k, ek, pk, rfl, hpk⟩ := paired_get hph hj
      have hj6 : j < 6 := by
        have := (List.getElem?_eq_some_iff.mp ek).1
        omega
      have eS : (shs.take (j + 1)).foldl (stepB fo n) B = stepB fo n ((shs.take j).foldl (stepB fo n) B) k := by
        rw [List.take_add_one, ek, List.foldl_append] <;> rfl
      have hBo4 := hBo3.step fo n k
      rw [eS]
      have hBo5 : BOk (stepB fo n ((shs.take j).foldl (stepB fo n) B) k) (6 * i + (j + 1)) (fun x => i + (shs.take (j + 1)).count x) := hBo4.mono (by omega) fun x => by
        rw [List.take_add_one, ek, List.count_append]
        show i + (shs.take j).count x + (if x = k then 1 else 0) ≤ i + ((shs.take j).count x + [k].count x)
        rw [List.count_singleton]
        by_cases z : x = k
        · rw [if_pos z, if_pos (by rw [z]; exact beq_self_eq_true _)]; omega
        · rw [if_neg z]; omega
      clear eS hBo4
      generalize (shs.take j).foldl (stepB fo n) B = C at hB3 hBo3 hBo5
      have hlen3 : kvs.length ≤ 6 * i + j := by
        have := Paired.length hB3
        have := hBo3.len
        omega
      have keep : ∀ H4, Same H3 H4 → Same H H4 ∧ H4 sl = some (.lst ys) ∧ phsR H4 shs ys := fun H4 g4 => ⟨g3.trans g4, g4 _ _ hsl, hph.mono g4.t⟩
      have dget : ∀ {H4 : Hp} {x z9 : Option V} {z10 : Option V} (Q : VK), Same H3 H4 → (∀ v H5, Same H4 H5 → beR H5 (getB C k) v → Q v H5) → (tDGet2 (tVar 2) (tVar 8) (tTup (tCons (tC (.int 0)) (tCons (tLst tNil) tNil)))) [some (.ref ta), some (.ref pb), some (.ref d), some (.int n), some (.str sc), some (.ref pp), some (.ref sl), some (.int fo), some (.ref pk), z9, z10] H4 Q := by
        intro H4 x z9 z10 Q g4 hQ
        refine ⟨_, rfl, d, rfl, .inr ⟨kvs, .inl (g4 _ _ hd3)⟩, _, rfl, (by show 0 ≤ sizeLine; decide), fun l1 hl1 => ?_⟩
        refine ⟨(by show 2 ≤ sizeLine; decide), fun t1 ht1 => ?_⟩
        have g5 := same_new hl1 (.lst [])
        have g6 := same_new ht1 (.tup [.int 0, .ref l1])
        have g56 := g5.trans g6
        obtain ⟨o, ho, hbe⟩ := get_rd (z := .ref t1) (g56 _ _ (g4 _ _ hd3)) (tab_mono hB3 fun _ _ z => z.mono (g4.trans g56)) (g56 _ _ (g4 _ _ hpk)) ⟨t1, l1, rfl, upd_same, g6 _ _ upd_same⟩
        exact ⟨o, ho, hQ _ _ g56 hbe⟩
      refine if_sm (decide (fo ≥ 0) && decide (fo ≥ (getB C k).1)) (and_sm _ _ (fun Q q => ⟨_, rfl, _, _, rfl, rfl, _, rfl, q _ (Same.refl _)⟩) (fun _ H4 g4 Q q => ⟨_, rfl, dget (x := none) _ g4 fun v H5 g5 hbe => ?_⟩)) (fun z H4 g4 => ?_) (fun z H4 g4 => ?_)
      · obtain ⟨bp, bl, rfl, b1, b2⟩ := hbe
        exact ⟨bp, _, _, _, rfl, rfl, SqT.of b1, rfl, _, _, rfl, rfl, _, rfl, q _ g5⟩
      · have z1 : 0 ≤ fo := of_decide_eq_true (Bool.and_eq_true_iff.mp z).1
        have z2 : (getB C k).1 ≤ fo := of_decide_eq_true (Bool.and_eq_true_iff.mp z).2
        have eS : stepB fo n C k = putA C k (fo, (if (getB C k).1 < fo then [] else (getB C k).2) ++ [n]) := if_pos ⟨z1, z2⟩
        have lenB : (getB C k).2.length ≤ 26 := by
          unfold getB
          cases e : lookA C k with
          | none => exact Nat.zero_le _
          | some b =>
            have h1 := hBo3.few k b e
            have h2 := count_take (o1.sublist (List.take_sublist j shs)) k
            show b.2.length ≤ 26
            omega
        have fin : ∀ (H5 : Hp) (v9 : V) (b : Int × List Int) (D : Ends), Same H4 H5 → beR H5 b v9 → b.2.length ≤ 26 → b.2 = (if (getB C k).1 < fo then [] else (getB C k).2) → D.nx = (fun σ' H' => Same H H' ∧ H' sl = some (.lst ys) ∧ phsR H' shs ys ∧ ∃ (kvs : List (List Key × V)) (u8 u9 : Option V), σ' = [some (.ref ta), some (.ref pb), some (.ref d), some (.int n), some (.str sc), some (.ref pp), some (.ref sl), some (.int fo), u8, u9, none] ∧ H' d = some (.dT kvs) ∧ tabR beR H' (stepB fo n C k) kvs ∧ BOk (stepB fo n C k) (6 * i + (j + 1)) (fun k => i + (shs.take (j + 1)).count k)) →
            sDPut (tVar 2) (tVar 8) (tTup (tCons (tVar 7) (tCons (tOp rCat (tOp (rIxT K) (tVar 9) (tC (.int 1))) (tLst (tCons (tVar 3) tNil))) tNil))) D [some (.ref ta), some (.ref pb), some (.ref d), some (.int n), some (.str sc), some (.ref pp), some (.ref sl), some (.int fo), some (.ref pk), some v9, none] H5 := by
          intro H5 v9 b D g5 hbe hb13 eb hD
          obtain ⟨bp, bl, rfl, b1, b2⟩ := hbe
          have g35 := g4.trans g5
          refine ⟨_, rfl, _, rfl, bp, _, _, _, rfl, rfl, SqT.of b1, rfl, _, rfl, (by show 1 ≤ sizeLine; decide), fun l1 hl1 => ?_⟩
          have g6 := same_new hl1 (.lst [.int n])
          refine ⟨bl, l1, _, _, rfl, rfl, g6 _ _ b2, upd_same, by rw [List.length_map]; show b.2.length + 1 ≤ sizeLine; omega, fun l2 hl2 => ?_⟩
          have g7 := same_new hl2 (.lst (b.2.map V.int ++ [.int n]))
          have e7 : upd (upd H5 l1 (.lst [.int n])) l2 (.lst (b.2.map V.int ++ [.int n])) l2 = some (.lst (b.2.map V.int ++ [.int n])) := upd_same
          generalize upd (upd H5 l1 (.lst [.int n])) l2 (.lst (b.2.map V.int ++ [.int n])) = H7 at g7 e7
          refine ⟨(by show 2 ≤ sizeLine; decide), fun t1 ht1 => ?_⟩
          have g8 := same_new ht1 (.tup [.int fo, .ref l2])
          have e8 : upd H7 t1 (.tup [.int fo, .ref l2]) t1 = some (.tup [.int fo, .ref l2]) := upd_same
          generalize upd H7 t1 (.tup [.int fo, .ref l2]) = H8 at g8 e8
          have g38 := ((g35.trans g6).trans g7).trans g8
          have hd8 := g38 _ _ hd3
          have hpk8 := g38 _ _ hpk
          refine ⟨_, rfl, _, rfl, d, _, rfl, DPut.t (k := inr k) hd8 (by rw [inr_kV]; exact hpk8) (by omega), ?_⟩
          rw [hD]
          obtain ⟨s1, s2, s3⟩ := keep H8 g38
          have t9 : TSame H8 (upd H8 d (.dT (putK kvs (inr k) (.ref t1)))) := TSame.upd fun xs z => by rw [hd8] at z; cases z
          have new : beR H8 (fo, (if (getB C k).1 < fo then [] else (getB C k).2) ++ [n]) (.ref t1) := ⟨t1, l2, rfl, e8, by rw [g8 _ _ e7, ← eb, List.map_append] <;> rfl⟩
          refine ⟨keep_upd hd0 s1 _, by rw [upd_ne (ne_of s2 hd8 (fun z => nomatch z))]; exact s2, s3.mono t9, _, _, _, rfl, upd_same, ?_, hBo5⟩
          rw [eS]
          exact tab_mono (tab_put (tab_mono hB3 fun _ _ z => z.mono g38) new) fun _ _ z => z.upd hd8
        refine seqasg_tt (dget (x := none) _ g4 fun v9 H5 g5 hbe => ?_)
        obtain ⟨bp, bl, rfl, b1, b2⟩ := id hbe
        refine seqif_sm (decide (fo > (getB C k).1)) (fun Q q => ⟨_, rfl, _, rfl, bp, _, _, _, rfl, rfl, SqT.of b1, rfl, _, _, rfl, rfl, _, rfl, q _ (Same.refl _)⟩) (fun y H6 g6 => ?_) (fun y H6 g6 => ?_)
        · have y' : (getB C k).1 < fo := of_decide_eq_true y
          refine ⟨_, rfl, (by show 0 ≤ sizeLine; decide), fun l1 hl1 => ?_⟩
          have g7 := same_new hl1 (.lst [])
          refine ⟨(by show 2 ≤ sizeLine; decide), fun t1 ht1 => ?_⟩
          have g8 := same_new ht1 (.tup [.int fo, .ref l1])
          exact fin _ (.ref t1) (fo, []) _ (((g5.trans g6).trans g7).trans g8) ⟨t1, l1, rfl, upd_same, g8 _ _ upd_same⟩ (Nat.zero_le _) (by rw [if_pos y']) rfl
        · have y' : ¬ (getB C k).1 < fo := of_decide_eq_false y
          exact fin _ (.ref bp) (getB C k) _ (g5.trans g6) (hbe.mono g6) lenB (by rw [if_neg y']) rfl
      · obtain ⟨s1, s2, s3⟩ := keep H4 g4
        have eS : stepB fo n C k = C := if_neg fun ⟨x1, x2⟩ => by
          rw [decide_eq_true (show fo ≥ 0 from x1), decide_eq_true (show fo ≥ (getB C k).1 from x2)] at z
          cases z
        refine ⟨s1, s2, s3, kvs, _, _, rfl, g4 _ _ hd3, ?_, hBo5⟩
        rw [eS]
        exact tab_mono hB3 fun _ _ z => z.mono g4
    · rintro σ' H3 ⟨g3, hsl, hph, kvs, u8, u9, rfl, hd3, hB3, hBo3⟩
      rw [← yl, List.take_length] at hB3 hBo3
      exact ⟨g3, kvs, _, _, _, _, _, _, _, rfl, hd3, hB3, hBo3.mono (by show 6 * i + shs.length ≤ 6 * (i + 1); omega) fun k => by have := count_take o1 k; show i + shs.count k ≤ i + 1; omega⟩
  · rintro σ' H1 ⟨g, kvs, u3, u4, u5, u6, u7, u8, u9, rfl, hd, hB, hBo⟩
    have xl := Paired.length hts
    rw [← xl, List.take_length] at hB hBo
    have hfew := hok.few
    have eD : (ts.foldl (tellB pl) []).map dueE = winD pl ts := rfl
    generalize ts.foldl (tellB pl) [] = B at hB hBo eD
    have bl := Paired.length hB
    have blen := hBo.len
    refine fun e he0 => ?_
    have g1 := same_new he0 (.dT [])
    have hd2 := g1 _ _ hd
    have hB2 := tab_mono hB (R := beR) (H' := upd H1 e (.dT [])) fun _ _ z => z.mono g1
    have e1 : upd H1 e (.dT []) e = some (.dT []) := upd_same
    have hed : e ≠ d := fun z => by rw [z, hd] at he0; cases he0
    have g2 := g.trans g1
    have he : H e = none := g.free he0
    generalize upd H1 e (.dT []) = H2 at hd2 hB2 e1 g2
    refine fun Ok => ⟨_, rfl, d, kvs, rfl, hd2, fun ob hOk => ?_⟩
    have hBf : tabR beR (upd H2 d (.frz ob (.dT kvs))) B kvs := tab_mono hB2 fun _ _ z => z.upd hd2
    have ef : (upd H2 d (.frz ob (.dT kvs))) e = some (.dT []) := by rw [upd_ne hed]; exact e1
    have df : (upd H2 d (.frz ob (.dT kvs))) d = some (.frz ob (.dT kvs)) := upd_same
    have sf : Same H (upd H2 d (.frz ob (.dT kvs))) := keep_upd hd0 g2 _
    generalize upd H2 d (.frz ob (.dT kvs)) = Hf at hBf ef df sf
    refine for_dict (d := d) (ob := ob) (kvs := kvs) (fun i σ' H' => Same H H' ∧ H' d = some (.frz ob (.dT kvs)) ∧ tabR beR H' B kvs ∧ ∃ (kvs' : List (List Key × V)) (u8 : Option V), σ' = [some (.ref ta), some (.ref pb), some (.ref d), u3, u4, u5, u6, u7, u8, u9, some (.ref e)] ∧ H' e = some (.dT kvs') ∧ tabR wnR H' ((B.take i).map dueE) kvs') ?_ (fun i σ' H' _ h => h.2.1) ?_ ?_
    · exact ⟨sf, df, hBf, [], _, rfl, ef, .nil⟩
    · rintro i kk x p σ' H3 hi hp ⟨g3, hd3, hB3, kvs', u8, rfl, he3, hT3⟩
      obtain ⟨b, eb, rfl, hbe⟩ := tab_get hB3 hi
      rw [inr_kV] at hp
      have hbm := List.mem_of_getElem? eb
      have hlk := look_mem hBo.nd hbm
      have hb12 : b.2.2.length ≤ 25 := Nat.le_trans (hBo.few _ _ hlk) (by omega)
      obtain ⟨x2, ev, hbe2⟩ : ∃ x2, valV kvs (inr b.1) = some x2 ∧ beR H3 b.2 x2 := by
        rcases tab_look (k := b.1) hB3 with ⟨e1, e2⟩ | ⟨v, x2, e1, e2, r⟩
        · rw [hlk] at e1; cases e1
        · rw [hlk] at e1
          cases e1
          exact ⟨x2, e2, r⟩
      obtain ⟨bp, bl', rfl, b1, b2⟩ := hbe2
      have dg : DGet H3 d (.ref p) (some (.ref bp)) := .inr ⟨kvs, inr b.1, p, .inr ⟨ob, hd3⟩, rfl, by rw [inr_kV]; exact hp, ev.symm⟩
      refine ⟨_, rfl, _, rfl, d, _, rfl, dg, bp, _, _, _, rfl, rfl, SqT.of b1, rfl, bl', b.2.2, rfl, SqL.of b2, by omega, fun l1 ns1 hl1 hperm hsrt => ?_⟩
      have g4 := same_new hl1 (.lst (ns1.map V.int))
      refine ⟨l1, _, rfl, .inl ⟨SqL.of upd_same, fun t1 ht1 => ?_⟩⟩
      have g5 := same_new ht1 (.tup (ns1.map V.int))
      have e5 : upd (upd H3 l1 (.lst (ns1.map V.int))) t1 (.tup (ns1.map V.int)) t1 = some (.tup (ns1.map V.int)) := upd_same
      generalize upd (upd H3 l1 (.lst (ns1.map V.int))) t1 (.tup (ns1.map V.int)) = H5 at g5 e5
      have g35 := g4.trans g5
      have he5 := g35 _ _ he3
      have hl' : kvs'.length ≤ 150 := by
        have := Paired.length hT3
        rw [List.length_map, List.length_take] at this
        omega
      refine ⟨_, rfl, _, rfl, e, _, rfl, DPut.t (k := inr b.1) he5 (by rw [inr_kV]; exact g35 _ _ hp) (by omega), ?_⟩
      have t6 : TSame H5 (upd H5 e (.dT (putK kvs' (inr b.1) (.ref t1)))) := TSame.upd fun xs z => by rw [he5] at z; cases z
      refine ⟨keep_upd he (g3.trans g35) _, by rw [upd_ne (Ne.symm hed)]; exact g35 _ _ hd3, tab_mono hB3 fun _ _ z => (z.mono g35).upd he5, _, _, rfl, upd_same, ?_⟩
      have enew : (B.take (i + 1)).map dueE = putA ((B.take i).map dueE) b.1 (sortI b.2.2) := by
        rw [put_fresh, List.take_add_one, eb, List.map_append]
        · rfl
        · rw [keys_due]
          have e9 : (keysA B)[i]? = some b.1 := by unfold keysA; rw [List.getElem?_map, eb] <;> rfl
          have e10 := not_take hBo.nd e9
          unfold keysA at e10 ⊢
          rw [← List.map_take] at e10
          exact e10
      rw [enew]
      refine tab_mono (tab_put (tab_mono hT3 fun _ _ z => z.mono g35.t) ⟨t1, rfl, ?_⟩) fun _ _ z => z.mono t6
      rw [e5, sortI_eq hperm hsrt]
    · rintro σ' H3 ⟨g3, hd3, hB3, kvs', u8, rfl, he3, hT3⟩
      refine ⟨d, ob, kvs, hOk, hd3, ?_⟩
      rw [← bl, List.take_length, eD] at hT3
      have t4 : TSame H3 (upd H3 d (.dT kvs)) := TSame.upd fun xs z => by rw [hd3] at z; cases z
      refine ⟨_, rfl, q e kvs' _ (keep_upd hd0 g3 _) he (by rw [upd_ne hed]; exact he3) (tab_mono hT3 fun _ _ z => z.mono t4) ?_ ?_ ?_⟩
      · rw [← eD, keys_due]; exact hBo.nd
      · rw [← eD, List.length_map]; omega
      · intro k w hw
        rw [← eD, look_due] at hw
        cases hk : lookA B k with
        | none => rw [hk] at hw; cases hw
        | some b =>
          rw [hk] at hw
          cases hw
          have h1 := hBo.few k b hk
          rw [show (sortI b.2).length = b.2.length from (List.mergeSort_perm b.2 _).length_eq]
          omega
end
end D
namespace D
open PySem L2
def stands (W : List Str) (at' : Nat) (l : List Str) : Bool := decide ((W.drop at').take l.length = l)
def dueN (W : List Str) (at' : Nat) (L : List (List Str)) : Nat := L.foldl (fun m l => if stands W at' l = true then (if l.length > m then l.length else m) else m) 0
theorem paired_str2 (H : Hp) : ∀ zs : List Str, Paired (strR H) zs (zs.map V.str)
  | [] => .nil
  | _ :: r => .cons rfl (paired_str2 H r)
def spLg : Sp := fun vs H Q _ => ∃ (d wd : Addr) (kvs : List (List Key × V)) (T : Tab (List Int)) (W : List Str) (k : Nat), vs = [.ref d, .ref wd, .int k] ∧ H d = some (.dT kvs) ∧ tabR wnR H T kvs ∧ H wd = some (.tup (W.map V.str)) ∧ T.length ≤ 1000 ∧ k ≤ 1000 ∧ (∀ t ∈ T, t.1.length ≤ 1000) ∧
  ∀ H', Same H H' → Q (.int (dueN W k (keysA T) : Nat)) H'
section
variable {P : Program} {w : World} {K : PySem.W.Frag} {mg : Str → Option Value} {base : Heap} {f : Addr} {fd : FuncData}
theorem scLg : FnScope ["_law_told_here", "_law_words", "_law_at", "_law_most", "_law_phrase"] ["_law_told_here", "_law_words", "_law_at"] (defScope s_l_longest) := ⟨rfl, rfl, rfl, by decide +kernel, rfl, by decide +kernel, by decide +kernel⟩
set_option maxHeartbeats 4000000 in
theorem ok_lg (F : Fun K "_law_longest" "_law_longest" s_l_longest f fd) (T : Nm mg) : FnOk P w K mg base CX0 1 f fd ["_law_told_here", "_law_words", "_law_at"] spLg := by
  refine F.ok scLg (fun vs H Q E h => ?_) (fun cdv A outer s H vs Q E hr h => ?_)
  · obtain ⟨d, wd, kvs, TT, W, k, rfl, _⟩ := h
    rfl
  obtain ⟨d, wd, kvs, TT, W, k, rfl, hd, hL, hW, hLl, hk, hll, q⟩ := h
  have hu : (A.deeper (PyProof.Rows.envOfC "_law_longest" (defScope s_l_longest) s.heap.objs.size f cdv)).units < cLine := hr.units0
  refine ⟨_, pss_cons (ps_set (i := 3) scLg.nd rfl (Or.inl rfl) pe_int)
    (pss_cons (ps_forD PassesOwn.never rfl (pv 0) (pg_name (i := 4) scLg.nd rfl (Or.inl rfl))
      (pss_one (ps_if (pt_cmpR (op_eqTup eqok_str hu) (pe_slice sl_tupX (pv 1) (po_some (pv 2)) (po_some (pe_op op_add (pv 2) (pe_callB call_len_seq rfl T.len PySem.boot_len (pa_cons (pv 4) pa_nil))))) (pv 4) (nomark _))
        (pss_one (ps_set (i := 3) scLg.nd rfl (Or.inl rfl) (pe_callB (call_max2 rfl) rfl T.mx PyProof.Rows.boot_max (pa_cons (pv 3) (pa_cons (pe_callB call_len_seq rfl T.len PySem.boot_len (pa_cons (pv 4) pa_nil)) pa_nil))))) pss_nil)))
    (pss_one (ps_ret (pv 3)))), ?_⟩
  have xl := Paired.length hL
  refine fun Ok => ⟨_, rfl, d, kvs, rfl, hd, fun ob hOk => ?_⟩
  have hWf : (upd H d (.frz ob (.dT kvs))) wd = some (.tup (W.map V.str)) := by rw [upd_ne (ne_of hW hd (fun z => nomatch z))]; exact hW
  refine for_dict (d := d) (ob := ob) (kvs := kvs) (fun i σ' H' => Same (upd H d (.frz ob (.dT kvs))) H' ∧ ∃ u4, σ' = [some (.ref d), some (.ref wd), some (.int (k : Nat)), some (.int (dueN W k ((keysA TT).take i) : Nat)), u4]) ?_ (fun i σ' H' _ h => h.1 _ _ upd_same) ?_ ?_
  · exact ⟨Same.refl _, none, rfl⟩
  · rintro i kk x p σ' H' hi hp ⟨g, u4, rfl⟩
    obtain ⟨t, et, rfl, _⟩ := tab_get hL hi
    rw [inr_kV] at hp
    generalize el : t.1 = l at hp
    have hlm : l.length ≤ 1000 := by rw [← el]; exact hll t (List.mem_of_getElem? et)
    have hlen : (l.map V.str).length = l.length := List.length_map _
    have elk : (keysA TT)[i]? = some l := by unfold keysA; rw [List.getElem?_map, et, ← el]; rfl
    have ed : dueN W k ((keysA TT).take (i + 1)) = if stands W k l = true then (if l.length > dueN W k ((keysA TT).take i) then l.length else dueN W k ((keysA TT).take i)) else dueN W k ((keysA TT).take i) := by
      unfold dueN
      rw [List.take_add_one, elk, List.foldl_append]
      rfl
    refine ⟨_, rfl, _, rfl, _, rfl, _, rfl, _, rfl, p, _, rfl, .inr (SqT.of hp), _, _, rfl, rfl, _, rfl, wd, _, rfl, g _ _ hWf, fun p8 H8 g8 h8 => ?_⟩
    have h8 : H8 p8 = some (.tup (cutV (W.map V.str) (some ((k : Nat) : Int)) (some (((k : Nat) : Int) + (((l.map V.str).length : Nat) : Int))))) := h8
    have ek : cutV (W.map V.str) (some ((k : Nat) : Int)) (some (((k : Nat) : Int) + (((l.map V.str).length : Nat) : Int))) = ((W.drop k).take l.length).map V.str := by
      rw [show ((k : Nat) : Int) + (((l.map V.str).length : Nat) : Int) = ((k + l.length : Nat) : Int) by rw [hlen]; omega, cutV_mid, List.map_take, List.map_drop]
      congr 1
      omega
    rw [ek] at h8
    refine ⟨_, rfl, (W.drop k).take l.length, l, ⟨p8, _, rfl, SqT.of h8, paired_str2 _ _⟩, ⟨p, _, rfl, SqT.of (g8 _ _ hp), paired_str2 _ _⟩, _, rfl, ?_⟩
    refine ite2 (fun z => ?_) (fun z => ?_)
    · refine ⟨_, rfl, _, rfl, p, _, rfl, .inr (SqT.of (g8 _ _ hp)), _, _, rfl, ?_⟩
      refine ⟨g.trans g8, some (.ref p), ?_⟩
      rw [ed, if_pos (show stands W k l = true from z), hlen]
      by_cases h : l.length > dueN W k ((keysA TT).take i)
      · rw [if_pos h, if_pos (show ((l.length : Nat) : Int) > _ by omega)] <;> rfl
      · rw [if_neg h, if_neg (show ¬ ((l.length : Nat) : Int) > _ by omega)] <;> rfl
    · refine ⟨g.trans g8, some (.ref p), ?_⟩
      rw [ed, if_neg (show ¬ stands W k l = true from z)] <;> rfl
  · rintro σ' H' ⟨g, u4, rfl⟩
    refine ⟨d, ob, kvs, hOk, g _ _ upd_same, ?_⟩
    have e : (keysA TT).take kvs.length = keysA TT := by rw [← xl]; unfold keysA; rw [← List.length_map (f := (·.1)), List.take_length]
    rw [e]
    exact ⟨_, rfl, q _ (same_thaw hd g)⟩
end
end D
namespace D
open PySem L2
abbrev Mk := Int × Int × Int × List Int
def mkR (H : Hp) (m : Mk) (v : V) : Prop := ∃ a p, v = .ref a ∧ H a = some (.tup [.int m.1, .int m.2.1, .int m.2.2.1, .ref p]) ∧ H p = some (.tup (m.2.2.2.map V.int))
theorem mkR.mono {H H' : Hp} {m : Mk} {v : V} (h : mkR H m v) (g : TSame H H') : mkR H' m v := let ⟨a, p, e, h1, h2⟩ := h; ⟨a, p, e, g _ _ h1, g _ _ h2⟩
abbrev mksR (H : Hp) : List Mk → List V → Prop := Paired (mkR H)
theorem mksR.mono {H H' : Hp} {ms : List Mk} {xs : List V} (h : mksR H ms xs) (g : TSame H H') : mksR H' ms xs := Paired.mapP h fun _ _ z => z.mono g
structure Ty7 (K : PySem.W.Frag) (mg : Str → Option Value) : Prop where
  isi : mg "isinstance" = none
  mb : mg "bool" = none
  mi : mg "int" = none
  ml : mg "list" = none
  mt : mg "tuple" = none
  kb : PySem.W.kitOne K (.type "int") (.type "bool") = some false
  ki : PySem.W.kitOne K (.type "int") (.type "int") = some true
  kl : PySem.W.kitOne K (.type "list") (.type "list") = some true
  kt : PySem.W.kitOne K (.type "tuple") (.type "tuple") = some true
def spWhole : Sp := fun vs H Q _ => ∃ n : Int, vs = [.int n] ∧ Q (.bl true) H
def spKinds : Sp := fun vs H Q _ => ∃ (l : Addr) (xs : List V) (ms : List Mk), vs = [.ref l] ∧ H l = some (.lst xs) ∧ mksR H ms xs ∧ (∀ m ∈ ms, m.2.2.2.length ≤ 1000) ∧ ∀ H', Same H H' → Q (.bl true) H'
section
variable {P : Program} {w : World} {K : PySem.W.Frag} {mg : Str → Option Value} {base : Heap} {f : Addr} {fd : FuncData}
theorem scWhole : FnScope ["_law_found"] ["_law_found"] (defScope s_l_whole) := ⟨rfl, rfl, rfl, by decide +kernel, rfl, by decide +kernel, by decide +kernel⟩
theorem ok_whole (F : Fun K "_law_whole" "_law_whole" s_l_whole f fd) (Y : Ty7 K mg) : FnOk P w K mg base CX0 1 f fd ["_law_found"] spWhole := by
  refine F.ok scWhole (fun vs H Q E h => ?_) (fun cdv A outer s H vs Q E hr h => ?_)
  · obtain ⟨n, rfl, _⟩ := h
    rfl
  obtain ⟨n, rfl, q⟩ := h
  refine ⟨_, pss_one (ps_ret (pe_and (pe_callB call_isi rfl Y.isi PyProof.Rows.boot_isinstance (pa_cons (pv 0) (pa_cons (pe_bltn (v := .ty "int") rfl Y.mi PyProof.Rows.boot_int rfl) pa_nil))) (pe_one (pe_not (pe_callB call_isi rfl Y.isi PyProof.Rows.boot_isinstance (pa_cons (pv 0) (pa_cons (pe_bltn (v := .ty "bool") rfl Y.mb PyProof.Rows.boot_bool rfl) pa_nil))))))), ?_⟩
  refine ⟨_, rfl, _, _, _, _, true, rfl, rfl, .int _, Y.ki, _, rfl, iteT ?_⟩
  exact ⟨_, rfl, _, _, _, _, false, rfl, rfl, .int _, Y.kb, _, rfl, q⟩
theorem scKinds : FnScope ["_law_found", "_law_mark", "_law_number_here"] ["_law_found"] (defScope s_l_kinds) := ⟨rfl, rfl, rfl, by decide +kernel, rfl, by decide +kernel, by decide +kernel⟩
set_option maxHeartbeats 4000000 in
theorem ok_kinds (F : Fun K "_law_kinds" "_law_kinds" s_l_kinds f fd) (T : Nm mg) (Y : Ty7 K mg) (GW : Def P w K mg base CX0 1 "_law_whole" ["_law_found"] spWhole) : FnOk P w K mg base CX0 2 f fd ["_law_found"] spKinds := by
  refine F.ok scKinds (fun vs H Q E h => ?_) (fun cdv A outer s H vs Q E hr h => ?_)
  · obtain ⟨l, xs, ms, rfl, _⟩ := h
    rfl
  obtain ⟨l, xs, ms, rfl, hl, hms, hw, q⟩ := h
  refine ⟨_, pss_cons (ps_if (pt_not (pt_val (pe_callB call_isi rfl Y.isi PyProof.Rows.boot_isinstance (pa_cons (pv 0) (pa_cons (pe_bltn (v := .ty "list") rfl Y.ml PyProof.Rows.boot_list rfl) pa_nil))))) (pss_one (ps_ret pe_bl)) pss_nil)
    (pss_cons (ps_for PassesOwn.never rfl (pi_list (pv 0)) (pg_name (i := 1) scKinds.nd rfl (Or.inl rfl))
      (pss_cons (ps_if (PW.pt (pw_or (pt_not (pt_val (pe_callB call_isi rfl Y.isi PyProof.Rows.boot_isinstance (pa_cons (pv 1) (pa_cons (pe_bltn (v := .ty "tuple") rfl Y.mt PyProof.Rows.boot_tuple rfl) pa_nil))))) (pw_or (pt_cmpR op_ne (pe_callB call_len_seq rfl T.len PySem.boot_len (pa_cons (pv 1) pa_nil)) pe_int (nomark _)) (pw_or1 (pt_not (pt_val (pe_callB call_isi rfl Y.isi PyProof.Rows.boot_isinstance (pa_cons (pe_ix ix_tup (pv 1) pe_int (fun _ _ => rfl)) (pa_cons (pe_bltn (v := .ty "tuple") rfl Y.mt PyProof.Rows.boot_tuple rfl) pa_nil))))))))) (pss_one (ps_ret pe_bl)) pss_nil)
      (pss_one (ps_for PassesOwn.never rfl (pi_tup (pe_op op_catX (pe_slice sl_tupX (pv 1) po_none (po_some pe_int)) (pe_ix ix_tup (pv 1) pe_int (fun _ _ => rfl)))) (pg_name (i := 2) scKinds.nd rfl (Or.inl rfl))
        (pss_one (ps_if (pt_not (pt_val (pe_def GW hr (pa_cons (pv 2) pa_nil)))) (pss_one (ps_ret pe_bl)) pss_nil))))))
    (pss_one (ps_ret pe_bl))), ?_⟩
  have hb := big
  refine seqif_sm false (not_sm true (fun Q q => ⟨_, rfl, _, _, _, _, true, rfl, rfl, .lst hl, Y.kl, _, rfl, q _ (Same.refl _)⟩)) (fun z => by cases z) (fun _ H1 g1 => ?_)
  refine ⟨_, rfl, l, rfl, ⟨_, SqL.of (g1 _ _ hl)⟩, ?_⟩
  refine for_list (K := K) (a := l) (xs := xs) (fun i σ' H' => Same H H' ∧ ∃ u1 u2, σ' = [some (.ref l), u1, u2]) ⟨g1, _, _, rfl⟩ (fun i σ' H' _ h => SqL.of (h.1 _ _ hl)) ?_ ?_
  · rintro i y σ' H2 hi ⟨g2, u1, u2, rfl⟩
    obtain ⟨m, em, hm⟩ := paired_get hms hi
    obtain ⟨a, p, rfl, h1, h2⟩ := hm.mono g2.t
    have hw' := hw m (List.mem_of_getElem? em)
    refine seqif_sm false (or_sm false false (not_sm true (fun Q q => ⟨_, rfl, _, _, _, _, true, rfl, rfl, .tup h1, Y.kt, _, rfl, q _ (Same.refl _)⟩)) (fun _ H3 g3 => or_sm false false (fun Q q => ⟨_, rfl, a, _, rfl, .inr (SqT.of (g3 _ _ h1)), rfl, _, rfl, q _ (Same.refl _)⟩) (fun _ H4 g4 => not_sm true (fun Q q => ⟨_, rfl, a, _, _, _, rfl, rfl, SqT.of (g4 _ _ (g3 _ _ h1)), rfl, _, _, _, _, true, rfl, rfl, .tup (g4 _ _ (g3 _ _ h2)), Y.kt, _, rfl, q _ (Same.refl _)⟩)))) (fun z => by cases z) (fun _ H3 g3 => ?_)
    refine ⟨_, rfl, _, rfl, a, _, rfl, g3 _ _ h1, fun p4 H4 g4 e4 => ?_⟩
    have g34 := g3.trans g4
    have e4 : H4 p4 = some (.tup [.int m.1, .int m.2.1, .int m.2.2.1]) := e4
    refine ⟨_, rfl, a, _, _, _, rfl, rfl, SqT.of (g34 _ _ h1), rfl, p4, p, _, _, rfl, rfl, e4, g34 _ _ h2, by show 3 + _ ≤ sizeLine; rw [List.length_map]; omega, fun p5 H5 g5 e5 => ?_⟩
    have e5 : H5 p5 = some (.tup (([m.1, m.2.1, m.2.2.1] ++ m.2.2.2).map V.int)) := e5
    refine ⟨p5, rfl, ⟨_, SqT.of e5⟩, ?_⟩
    refine for_tup (K := K) (a := p5) (xs := ([m.1, m.2.1, m.2.2.1] ++ m.2.2.2).map V.int) (fun j σ' H' => Same H5 H' ∧ ∃ u2, σ' = [some (.ref l), some (.ref a), u2]) ⟨Same.refl _, _, rfl⟩ (fun j σ' H' _ h => SqT.of (h.1 _ _ e5)) ?_ ?_
    · rintro j y σ' H6 hj ⟨g6, u2, rfl⟩
      obtain ⟨n, rfl⟩ : ∃ n, y = .int n := by
        rw [List.getElem?_map] at hj
        cases e : ([m.1, m.2.1, m.2.2.1] ++ m.2.2.2)[j]? with
        | none => rw [e] at hj; cases hj
        | some n => rw [e] at hj; cases hj; exact ⟨n, rfl⟩
      refine if_sm false (not_sm true (fun Q q => ⟨_, rfl, n, rfl, _, rfl, q _ (Same.refl _)⟩)) (fun z => by cases z) (fun _ H7 g7 => ?_)
      exact ⟨g6.trans g7, _, rfl⟩
    · rintro σ' H6 ⟨g6, u2, rfl⟩
      exact ⟨((g2.trans g34).trans g5).trans g6, _, _, rfl⟩
  · rintro σ' H2 ⟨g2, u1, u2, rfl⟩
    exact q _ g2
end
end D
namespace D
open PySem L2
abbrev Rm := Int × List Str × Tab (List Int)
def rmF (ts : List Tl) : L2.F → List Int → List Rm
  | .nil, _ => []
  | .say n ws r, p => (n, ws, winD p ts) :: rmF ts r p
  | .tell n _ _ _ ms r, p => (n, ms, winD p ts) :: rmF ts r p
  | .part n i r, p => rmF ts i (p ++ [n]) ++ rmF ts r p
def rmT (ts : List Tl) (p : List Int) : Th → List Rm
  | .say n ws => [(n, ws, winD p ts)]
  | .tell n _ _ _ ms => [(n, ms, winD p ts)]
  | .part n i => rmF ts i (p ++ [n])
theorem rm_flat (ts : List Tl) (p : List Int) : ∀ f : L2.F, rmF ts f p = f.ths.flatMap (rmT ts p)
  | .nil => rfl
  | .say n ws r => by
    show (n, ws, winD p ts) :: rmF ts r p = _
    rw [rm_flat ts p r] <;> rfl
  | .tell n sc ph bs ms r => by
    show (n, ms, winD p ts) :: rmF ts r p = _
    rw [rm_flat ts p r] <;> rfl
  | .part n i r => by
    show rmF ts i (p ++ [n]) ++ rmF ts r p = _
    rw [rm_flat ts p r] <;> rfl
theorem rm_len (ts : List Tl) : ∀ (f : L2.F) (p : List Int), (rmF ts f p).length ≤ f.ord.length
  | .nil, _ => Nat.le_refl _
  | .say n ws r, p => Nat.succ_le_succ (rm_len ts r p)
  | .tell n sc ph bs ms r, p => Nat.succ_le_succ (rm_len ts r p)
  | .part n i r, p => by
    have h1 := rm_len ts i (p ++ [n])
    have h2 := rm_len ts r p
    show (rmF ts i (p ++ [n]) ++ rmF ts r p).length ≤ (Th.part n i :: (i.ord ++ r.ord)).length
    rw [List.length_append, List.length_cons, List.length_append]
    omega
theorem rm_take {ts : List Tl} {f : L2.F} {p : List Int} {i : Nat} {t : Th} (h : f.ths[i]? = some t) : (f.ths.take (i + 1)).flatMap (rmT ts p) = (f.ths.take i).flatMap (rmT ts p) ++ rmT ts p t := by
  rw [List.take_add_one, h, List.flatMap_append]
  show _ ++ (rmT ts p t ++ []) = _
  rw [List.append_nil]
theorem rm_le {ts : List Tl} {f : L2.F} {p : List Int} (i : Nat) : ((f.ths.take i).flatMap (rmT ts p)).length ≤ f.ord.length := by
  refine Nat.le_trans ?_ (rm_len ts f p)
  rw [rm_flat ts p f]
  conv => rhs; rw [← List.take_append_drop i f.ths, List.flatMap_append, List.length_append]
  omega
def rmR (H : Hp) (x : Rm) (v : V) : Prop := ∃ a q d kvs, v = .ref a ∧ H a = some (.tup [.int x.1, .ref q, .ref d]) ∧ H q = some (.tup (x.2.1.map V.str)) ∧ H d = some (.dT kvs) ∧ tabR wnR H x.2.2 kvs
theorem rmR.mono {H H' : Hp} {x : Rm} {v : V} (h : rmR H x v) (g : Same H H') : rmR H' x v := let ⟨a, q, d, kvs, e, h1, h2, h3, h4⟩ := h; ⟨a, q, d, kvs, e, g _ _ h1, g _ _ h2, g _ _ h3, tab_mono h4 fun _ _ z => z.mono g.t⟩
theorem rmR.upd {r : Addr} {H : Hp} {x : Rm} {v : V} {ys : List V} {zs : List V} (h : rmR H x v) (hr : H r = some (.lst ys)) : rmR (L2.upd H r (.lst zs)) x v := by
  obtain ⟨a, q, d, kvs, e, h1, h2, h3, h4⟩ := h
  have g : TSame H (L2.upd H r (.lst zs)) := TSame.lst hr
  have ne : d ≠ r := fun e => by rw [e, hr] at h3; cases h3
  exact ⟨a, q, d, kvs, e, g _ _ h1, g _ _ h2, by rw [upd_ne ne]; exact h3, tab_mono h4 fun _ _ z => z.mono g⟩
def spRm (d : Nat) : Sp := fun vs H Q _ => ∃ (a pa ta : Addr) (n : Int) (f : L2.F) (p : List Int) (ts : List Tl) (xs : List V), vs = [.ref a, .ref pa, .ref ta] ∧ partR H n f (.ref a) ∧ iT H pa p ∧ H ta = some (.lst xs) ∧ Paired (tlR H) ts xs ∧ TlsOk ts ∧ f.dep < d ∧ f.ord.length ≤ 1000 ∧ p.length + f.dep ≤ 1000 ∧ ∀ r ys H', Same H H' → H r = none → H' r = some (.lst ys) → Paired (rmR H') (rmF ts f p) ys → Q (.ref r) H'
section
variable {P : Program} {w : World} {K : PySem.W.Frag} {mg : Str → Option Value} {base : Heap} {f : Addr} {fd : FuncData}
theorem scRm : FnScope ["_law_part", "_law_path", "_law_tellings_here", "_law_told_here", "_law_rows_here", "_law_thing"] ["_law_part", "_law_path", "_law_tellings_here"] (defScope s_l_rows) := ⟨rfl, rfl, rfl, by decide +kernel, rfl, by decide +kernel, by decide +kernel⟩
set_option maxHeartbeats 4000000 in
theorem rm_step {d : Nat} (F : Fun K "_law_rows" "_law_rows" s_l_rows f fd) (T : Nm mg) (GW : Def P w K mg base CX0 2 "_law_winners" ["_law_tellings_here", "_law_place"] spWin) (G : Def P w K mg base CX0 (d + 2) "_law_rows" ["_law_part", "_law_path", "_law_tellings_here"] (spRm d)) : FnOk P w K mg base CX0 (d + 3) f fd ["_law_part", "_law_path", "_law_tellings_here"] (spRm (d + 1)) := by
  refine F.ok scRm (fun vs H Q E h => ?_) (fun cdv A outer s H vs Q E hr h => ?_)
  · obtain ⟨_, _, _, _, _, _, _, _, rfl, _⟩ := h
    rfl
  obtain ⟨pt, pa, ta, pn, fo, p, ts, xs, rfl, hpt, hpa, hta, hts, hok, hd, hlen, hdp, q⟩ := h
  refine ⟨_, pss_cons (ps_set (i := 3) scRm.nd rfl (Or.inl rfl) (pe_def GW (hr.mono (by omega)) (pa_cons (pv 2) (pa_cons (pv 1) pa_nil))))
    (pss_cons (ps_set (i := 4) scRm.nd rfl (Or.inl rfl) (pe_lst pa_nil))
    (pss_cons (ps_for PassesOwn.never rfl (pi_tup (pe_ix ix_tup (pv 0) pe_int (fun _ _ => rfl))) (pg_name (i := 5) scRm.nd rfl (Or.inl rfl))
      (pss_one (ps_if (pt_cmpR op_eq (pe_ix ix_tup (pv 5) pe_int (fun _ _ => rfl)) pe_str (nomark _))
        (pss_one (ps_set (i := 4) scRm.nd rfl (Or.inl rfl) (pe_op op_cat (pv 4) (pe_def G hr (pa_cons (pv 5) (pa_cons (pe_op op_catX (pv 1) (pe_tup (pa_cons (pe_ix ix_tup (pv 5) pe_int (fun _ _ => rfl)) pa_nil))) (pa_cons (pv 2) pa_nil)))))))
        (pss_one (ps_expr (pe_bm PySem.F.plainAttrs_list PySem.F.slot_list_append PySem.F.type_list_append mt_append (pv 4) (pa_cons (pe_tup (pa_cons (pe_ix ix_tup (pv 5) pe_int (fun _ _ => rfl)) (pa_cons (pe_ix ix_tup (pv 5) (pe_op op_sub (pe_callB call_len_seq rfl T.len PySem.boot_len (pa_cons (pv 5) pa_nil)) pe_int) (fun _ _ => rfl)) (pa_cons (pv 3) pa_nil)))) pa_nil)))))))
    (pss_one (ps_ret (pv 4))))), ?_⟩
  have hb := big
  obtain ⟨pt', db, zs0, ept, hpt1, hdb, h3⟩ := id hpt
  cases ept
  have hths := fR_iff.mp h3
  refine ⟨_, rfl, _, rfl, ta, pa, ts, xs, p, rfl, hta, hts, hpa, by omega, hok, fun wd kw H0 g0 hwd ewd hW _ hWl _ => ?_⟩
  refine ⟨(by show 0 ≤ sizeLine; decide), fun l hl => ?_⟩
  have hlH := g0.free hl
  have g1 := g0.trans (same_new hl (.lst []))
  have w1 := same_new hl (.lst []) _ _ ewd
  have hW1 : tabR wnR (upd H0 l (.lst [])) (winD p ts) kw := tab_mono hW fun _ _ z => z.mono (same_new hl (.lst [])).t
  have e1 : upd H0 l (.lst []) l = some (.lst []) := upd_same
  generalize upd H0 l (.lst []) = H1 at g1 e1 w1 hW1 ⊢
  refine ⟨_, rfl, pt, _, _, _, rfl, rfl, SqT.of (g1 _ _ hpt1), rfl, db, rfl, ⟨_, SqT.of (g1 _ _ hdb)⟩, ?_⟩
  refine for_tup (K := K) (a := db) (xs := zs0) (fun i σ' H' => ∃ (r : Addr) (ys : List V) (u : Option V), σ' = [some (.ref pt), some (.ref pa), some (.ref ta), some (.ref wd), some (.ref r), u] ∧ Same H H' ∧ H r = none ∧ H' r = some (.lst ys) ∧ Paired (rmR H') ((fo.ths.take i).flatMap (rmT ts p)) ys ∧ H' wd = some (.dT kw) ∧ TSame H1 H') ?_ (fun i σ' H' _ h => by obtain ⟨r, ys, u, _, g, _⟩ := h; exact SqT.of (g _ _ hdb)) ?_ ?_
  · exact ⟨l, [], none, rfl, g1, hlH, e1, .nil, w1, TSame.refl _⟩
  · rintro i v σ' H' hi ⟨r, ys, u, rfl, g, hrn, hr2, hys, hw2, tw⟩
    obtain ⟨th, hth, hv⟩ := paired_get hths hi
    have hv' := hv.mono g.t
    have hsz : ys.length ≤ 1000 := by
      rw [← Paired.length hys]
      exact Nat.le_trans (rm_le i) hlen
    have hmem := List.mem_of_getElem? hth
    obtain ⟨va, vx, ev, hva, hk0, hk1⟩ := thR_head hv'
    rw [rm_take hth]
    generalize (fo.ths.take i).flatMap (rmT ts p) = L at hys
    subst ev
    have nwr : wd ≠ r := fun e => by rw [e, hr2] at hw2; cases hw2
    have leaf : ∀ (D : Ends) (n : Int) (W : List Str) (q : Addr) (tv : List V), decide (V.str (knd th) = V.str "part") = false → H' va = some (.tup tv) → atI tv 0 = some (.str (knd th)) → atI tv 1 = some (.int n) → atI tv ((((tv.length : Nat) : Int)) - 1) = some (.ref q) → H' q = some (.tup (W.map V.str)) → D.nx = (fun σ' H' => ∃ (r : Addr) (ys : List V) (u : Option V), σ' = [some (.ref pt), some (.ref pa), some (.ref ta), some (.ref wd), some (.ref r), u] ∧ Same H H' ∧ H r = none ∧ H' r = some (.lst ys) ∧ Paired (rmR H') (L ++ [(n, W, winD p ts)]) ys ∧ H' wd = some (.dT kw) ∧ TSame H1 H') →
        tIfS (tTest (tOp rEq (tOp (rIxT K) (tVar 5) (tC (.int 0))) (tC (.str "part")))) (tAsg (tOp rCat (tVar 4) (tCall (spRm d) [] E0 (tCons (tVar 5) (tCons (tOp rCatX (tVar 1) (tTup (tCons (tOp (rIxT K) (tVar 5) (tC (.int 1))) tNil))) (tCons (tVar 2) tNil))))) (gName 4)) (tDrop (tBM K "list" rAppend (tVar 4) (tCons (tTup (tCons (tOp (rIxT K) (tVar 5) (tC (.int 1))) (tCons (tOp (rIxT K) (tVar 5) (tOp (rI0 fun i j => .int (i - j)) (tCB (fun xs H Q => ∃ p ys, xs = [.ref p] ∧ (SqL K H p ys ∨ SqT K H p ys) ∧ Q (.int ys.length) H) (tCons (tVar 5) tNil)) (tC (.int 1)))) (tCons (tVar 3) tNil)))) tNil))) D [some (.ref pt), some (.ref pa), some (.ref ta), some (.ref wd), some (.ref r), some (.ref va)] H' := by
      intro D n W q tv hk hva h0 h1 h2 hp hD
      refine if_tt false (fun Q q => ⟨_, rfl, va, _, _, _, rfl, rfl, SqT.of hva, h0, rfl, _, rfl, by rw [hk]; exact q⟩) (fun z => by cases z) (fun _ => ?_)
      refine ⟨_, rfl, .inl ⟨rfl, _, SqL.of hr2⟩, _, rfl, va, _, _, _, rfl, rfl, SqT.of hva, h1, _, rfl, _, rfl, va, _, rfl, .inr (SqT.of hva), _, _, rfl, rfl, va, _, _, _, rfl, rfl, SqT.of hva, h2, _, rfl, (by show 3 ≤ sizeLine; decide), fun t1 ht1 => ?_⟩
      have g3 := same_new ht1 (.tup [.int n, .ref q, .ref wd])
      have e3 : upd H' t1 (.tup [.int n, .ref q, .ref wd]) t1 = some (.tup [.int n, .ref q, .ref wd]) := upd_same
      generalize upd H' t1 (.tup [.int n, .ref q, .ref wd]) = H3 at g3 e3
      have hr3 := g3 _ _ hr2
      have hw3 := g3 _ _ hw2
      refine ⟨r, _, _, rfl, rfl, hr3, by omega, ?_⟩
      rw [hD]
      have t4 : TSame H3 (upd H3 r (.lst (ys ++ [.ref t1]))) := TSame.lst hr3
      have w4 : (upd H3 r (.lst (ys ++ [.ref t1]))) wd = some (.dT kw) := by rw [upd_ne nwr]; exact hw3
      have tw4 := (tw.trans g3.t).trans t4
      exact ⟨r, _, _, rfl, keep_upd hrn (g.trans g3) _, hrn, upd_same, paired_snoc (Paired.mapP hys fun _ _ z => (z.mono g3).upd hr3) ⟨t1, q, wd, kw, rfl, t4 _ _ e3, t4 _ _ (g3 _ _ hp), w4, tab_mono hW1 fun _ _ z => z.mono tw4⟩, w4, tw4⟩
    cases th with
    | say n ws' =>
      obtain ⟨a2, x2, ea, h2, p2, rfl, hp2⟩ := hv'
      cases ea
      exact leaf _ n ws' p2 _ (by show decide (V.str "say" = V.str "part") = false; decide) h2 rfl rfl rfl hp2 rfl
    | tell n sc ph bs ms =>
      obtain ⟨a2, x2, y2, z2, ea, h2, _, _, p2, rfl, hp2⟩ := hv'
      cases ea
      exact leaf _ n ms p2 _ (by show decide (V.str "tell" = V.str "part") = false; decide) h2 rfl rfl rfl hp2 rfl
    | part n i2 =>
      have hv2 := hv'
      obtain ⟨a2, b2, zs2, ea2, h2, k2, k3⟩ := hv'
      cases ea2
      have hdk := dep_of_mem hmem
      have hkl : i2.ord.length ≤ fo.ord.length := by
        have : (Th.part n i2).ord.Sublist fo.ord := by rw [ord_flat fo]; exact List.sublist_flatten_of_mem (List.mem_map.mpr ⟨_, hmem, rfl⟩)
        have := this.length_le
        rw [show (Th.part n i2).ord = Th.part n i2 :: i2.ord from rfl, List.length_cons] at this
        omega
      refine if_tt true (fun Q q => ⟨_, rfl, va, _, _, _, rfl, rfl, SqT.of h2, rfl, rfl, _, rfl, by rw [show decide (V.str "part" = V.str "part") = true by decide]; exact q⟩) (fun _ => ?_) (fun z => by cases z)
      refine ⟨_, rfl, _, rfl, _, rfl, _, rfl, va, _, _, _, rfl, rfl, SqT.of h2, rfl, (by show 1 ≤ sizeLine; decide), fun t1 ht1 => ?_⟩
      have g3 := same_new ht1 (.tup [.int n])
      have e3 : upd H' t1 (.tup [.int n]) t1 = some (.tup [.int n]) := upd_same
      generalize upd H' t1 (.tup [.int n]) = H3 at g3 e3
      refine ⟨pa, t1, _, _, rfl, rfl, g3 _ _ (g _ _ hpa), e3, by rw [List.length_map]; show _ + 1 ≤ sizeLine; omega, fun p4 H4 g4 e4 => ?_⟩
      have g34 := g3.trans g4
      have gH4 := g.trans g34
      have e4 : iT H4 p4 (p ++ [n]) := by
        show H4 p4 = some (.tup ((p ++ [n]).map V.int))
        rw [e4, List.map_append] <;> rfl
      refine ⟨_, rfl, va, p4, ta, n, i2, p ++ [n], ts, xs, rfl, thR.mono (t := .part n i2) hv2 g34.t, e4, gH4 _ _ hta, Paired.mapP hts fun _ _ z => z.mono gH4, hok, by omega, by omega, by rw [List.length_append]; show _ + 1 + _ ≤ 1000; omega, fun r5 xs5 H5 g5 hr5 e5 hx5 => ?_⟩
      have g35 := g34.trans g5
      have xl : xs5.length ≤ 1000 := by
        rw [← Paired.length hx5]
        exact Nat.le_trans (rm_len ts i2 _) (by omega)
      refine ⟨r, r5, _, _, rfl, rfl, g35 _ _ hr2, e5, by omega, fun r6 hr6 => ?_⟩
      have g6 := same_new hr6 (.lst (ys ++ xs5))
      have g36 := g35.trans g6
      exact ⟨r6, _, _, rfl, g.trans g36, (g.trans g35).free hr6, upd_same, paired_app (Paired.mapP hys fun _ _ z => z.mono g36) (Paired.mapP hx5 fun _ _ z => z.mono g6), g36 _ _ hw2, tw.trans g36.t⟩
  · rintro σ' H' ⟨r, ys, u, rfl, g, hrn, hr2, hys, hw2, tw⟩
    have el : zs0.length = fo.ths.length := (Paired.length hths).symm
    rw [el, List.take_length, ← rm_flat] at hys
    exact ⟨_, rfl, q r ys H' g hrn hr2 hys⟩
theorem ok_rm (F : Fun K "_law_rows" "_law_rows" s_l_rows f fd) (T : Nm mg) (GW : Def P w K mg base CX0 2 "_law_winners" ["_law_tellings_here", "_law_place"] spWin) (b : Binds K fd ["_law_part", "_law_path", "_law_tellings_here"] []) (kp : PySem.W.keepIn K (.ref f) = true) (hm : mg "_law_rows" = some (.ref f)) : ∀ d, FnOk P w K mg base CX0 (d + 2) f fd ["_law_part", "_law_path", "_law_tellings_here"] (spRm d)
  | 0 => fnok_false fun vs H Q E ⟨_, _, _, _, _, _, _, _, _, _, _, _, _, _, hd, _⟩ => absurd hd (Nat.not_lt_zero _)
  | d + 1 => rm_step F T GW (Def.mk' (ok_rm F T GW b kp hm d) b kp hm)
end
end D
namespace D
open PySem L2
theorem due_mem (W : List Str) (k : Nat) : ∀ (L : List (List Str)) (a : Nat), let r := L.foldl (fun m l => if stands W k l = true then (if l.length > m then l.length else m) else m) a; r = a ∨ ∃ l ∈ L, stands W k l = true ∧ l.length = r
  | [], a => .inl rfl
  | l :: L, a => by
    show (L.foldl _ (if stands W k l = true then (if l.length > a then l.length else a) else a)) = a ∨ _
    rcases due_mem W k L (if stands W k l = true then (if l.length > a then l.length else a) else a) with e | ⟨x, hx, h1, h2⟩
    · rw [e]
      by_cases h : stands W k l = true
      · rw [if_pos h]
        by_cases g : l.length > a
        · rw [if_pos g]
          refine .inr ⟨l, List.mem_cons_self, h, ?_⟩
          show _ = L.foldl _ (if stands W k l = true then (if l.length > a then l.length else a) else a)
          rw [e, if_pos h, if_pos g]
        · rw [if_neg g]; exact .inl rfl
      · rw [if_neg h]; exact .inl rfl
    · exact .inr ⟨x, List.mem_cons_of_mem _ hx, h1, h2⟩
theorem due_key {W : List Str} {k : Nat} {L : List (List Str)} (h : 0 < dueN W k L) : (W.drop k).take (dueN W k L) ∈ L := by
  rcases due_mem W k L 0 with e | ⟨l, hl, h1, h2⟩
  · have : dueN W k L = 0 := e
    omega
  · have h2 : l.length = dueN W k L := h2
    rw [← h2, of_decide_eq_true h1]
    exact hl
def mkOne (T : Tab (List Int)) (n : Int) (W : List Str) (p : Nat) : List Mk := if 0 < dueN W p (keysA T) then [(n, (p : Int), ((dueN W p (keysA T) : Nat) : Int), (lookA T ((W.drop p).take (dueN W p (keysA T)))).getD [])] else []
def mkFuel (T : Tab (List Int)) (n : Int) (W : List Str) : Nat → Nat → List Mk
  | 0, _ => []
  | k + 1, p => if p < W.length then mkOne T n W p ++ mkFuel T n W k (p + max (dueN W p (keysA T)) 1) else []
theorem mkFuel_end {T : Tab (List Int)} {n : Int} {W : List Str} {k p : Nat} (h : ¬ p < W.length) : mkFuel T n W k p = [] := by
  cases k with
  | zero => rfl
  | succ k => exact if_neg h
def mksRow (x : Rm) : List Mk := mkFuel x.2.2 x.1 x.2.1 (x.2.1.length + 1) 0
theorem paired_at {α β : Type} {R : α → β → Prop} : ∀ {l : List α} {m : List β}, Paired R l m → ∀ {i : Nat} {a : α}, l[i]? = some a → ∃ b, m[i]? = some b ∧ R a b
  | _, _, .nil, i, a, h => by rw [List.getElem?_nil] at h; cases h
  | _, _, .cons h r, 0, a, e => by cases e; exact ⟨_, rfl, h⟩
  | _, _, .cons h r, i + 1, a, e => paired_at r e
theorem eqS_ints {A : Around} {s : Shared} : ∀ ns : List Int, Paired (EqS A s) (ns.map V.int) (ns.map V.int)
  | [] => .nil
  | n :: r => .cons (eqS_int n) (eqS_ints r)
def spRowM : Sp := fun vs H Q _ => ∃ (ra fl : Addr) (x : Rm) (xs : List V) (pre post : List Mk), vs = [.ref ra, .ref fl, .int (pre.length : Nat)] ∧ rmR H x (.ref ra) ∧ H fl = some (.lst xs) ∧ mksR H (pre ++ (mksRow x ++ post)) xs ∧ x.2.1.length ≤ 1000 ∧ x.2.2.length ≤ 1000 ∧ (∀ t ∈ x.2.2, t.1.length ≤ 1000) ∧ ∀ H', Same H H' → Q (.int ((pre ++ mksRow x).length : Nat)) H'
section
variable {P : Program} {w : World} {K : PySem.W.Frag} {mg : Str → Option Value} {base : Heap} {f : Addr} {fd : FuncData}
theorem scRowM : FnScope ["_law_row_here", "_law_found", "_law_at", "_law_place", "_law_many", "_law_due"] ["_law_row_here", "_law_found", "_law_at"] (defScope s_l_row_marked) := ⟨rfl, rfl, rfl, by decide +kernel, rfl, by decide +kernel, by decide +kernel⟩
set_option maxHeartbeats 8000000 in
theorem ok_rowM (F : Fun K "_law_row_marked" "_law_row_marked" s_l_row_marked f fd) (T : Nm mg) (GL : Def P w K mg base CX0 1 "_law_longest" ["_law_told_here", "_law_words", "_law_at"] spLg) : FnOk P w K mg base CX0 6 f fd ["_law_row_here", "_law_found", "_law_at"] spRowM := by
  refine F.ok scRowM (fun vs H Q E h => ?_) (fun cdv A outer s H vs Q E hr h => ?_)
  · obtain ⟨_, _, _, _, _, _, rfl, _⟩ := h
    rfl
  obtain ⟨ra, fl, x, xs, pre, post, rfl, hx, hfl, hms, hW9, hT9, hk9, q⟩ := h
  have hu1 : (A.deeper (PyProof.Rows.envOfC "_law_row_marked" (defScope s_l_row_marked) s.heap.objs.size f cdv)).units + 1 < cLine := by have := hr.un; omega
  have hu6 : (A.deeper (PyProof.Rows.envOfC "_law_row_marked" (defScope s_l_row_marked) s.heap.objs.size f cdv)).units + 1 + 2 < cLine := by have := hr.un; omega
  refine ⟨_, pss_cons (ps_set (i := 3) scRowM.nd rfl (Or.inl rfl) pe_int)
    (pss_cons (ps_while PassesOwn.never (pt_cmpR op_lt (pv 3) (pe_callB call_len_seq rfl T.len PySem.boot_len (pa_cons (pe_ix ix_tup (pv 0) pe_int (fun _ _ => rfl)) pa_nil)) (nomark _))
      (pss_cons (ps_set (i := 4) scRowM.nd rfl (Or.inl rfl) (pe_def GL (hr.mono (by omega)) (pa_cons (pe_ix ix_tup (pv 0) pe_int (fun _ _ => rfl)) (pa_cons (pe_ix ix_tup (pv 0) pe_int (fun _ _ => rfl)) (pa_cons (pv 3) pa_nil)))))
      (pss_cons (ps_if (pt_cmpR op_gt (pv 4) pe_int (nomark _))
        (pss_cons (ps_set (i := 5) scRowM.nd rfl (Or.inl rfl) (pe_tup (pa_cons (pe_ix ix_tup (pv 0) pe_int (fun _ _ => rfl)) (pa_cons (pv 3) (pa_cons (pv 4) (pa_cons (pe_dget hu1 (pe_ix ix_tup (pv 0) pe_int (fun _ _ => rfl)) (pe_slice sl_tupX (pe_ix ix_tup (pv 0) pe_int (fun _ _ => rfl)) (po_some (pv 3)) (po_some (pe_op op_add (pv 3) (pv 4)))) (fun _ _ => rfl)) pa_nil))))))
        (pss_cons (ps_if (PW.pt (pw_or (pt_cmpR op_ge (pv 2) (pe_callB call_len_seq rfl T.len PySem.boot_len (pa_cons (pv 1) pa_nil)) (nomark _)) (pw_or1 (pt_cmpR (op_neST (n := 2) hu6) (pe_ix ix_list (pv 1) (pv 2) (fun _ _ => rfl)) (pv 5) (nomark _))))) (pss_one (ps_ret (pe_un un_neg pe_int))) pss_nil)
        (pss_one (ps_set (i := 2) scRowM.nd rfl (Or.inl rfl) (pe_op op_add (pv 2) pe_int))))) pss_nil)
      (pss_one (ps_set (i := 3) scRowM.nd rfl (Or.inl rfl) (pe_op op_add (pv 3) (pe_callB (call_max2 rfl) rfl T.mx PyProof.Rows.boot_max (pa_cons (pv 4) (pa_cons pe_int pa_nil)))))))))
    (pss_one (ps_ret (pv 2)))), ?_⟩
  have hb := big
  obtain ⟨n, W, TB⟩ := x
  obtain ⟨ra', rq, rd, kvs, er, r1, r2, r3, hT⟩ := hx
  cases er
  have r1 : H ra = some (.tup [.int n, .ref rq, .ref rd]) := r1
  have r2 : H rq = some (.tup (W.map V.str)) := r2
  have hT : tabR wnR H TB kvs := hT
  have hW9 : W.length ≤ 1000 := hW9
  have hT9 : TB.length ≤ 1000 := hT9
  have hk9 : ∀ t ∈ TB, t.1.length ≤ 1000 := hk9
  have nl : (W.map V.str).length = W.length := List.length_map _
  have xl := Paired.length hms
  refine while_by (fun σ' H' => Same H H' ∧ ∃ (pl k : Nat) (dn : List Mk) (u4 u5 : Option V), σ' = [some (.ref ra), some (.ref fl), some (.int ((pre ++ dn).length : Nat)), some (.int (pl : Nat)), u4, u5] ∧ mksRow (n, W, TB) = dn ++ mkFuel TB n W k pl ∧ W.length < pl + k)
    (fun (σ' : St) _ => match σ'[3]? with | some (some (V.int i)) => W.length - i.toNat | _ => 0) ⟨Same.refl _, 0, W.length + 1, [], _, _, by rw [List.append_nil] <;> rfl, rfl, by omega⟩ ?_ (fun σ H Q Q' hq z => ?_)
  rotate_left
  · obtain ⟨v, hv, v0, h0, a1, a2, a3, a4, e1, e2, hS, hat, p, ys, e, h, i, j, e3, e4, k, e5, z⟩ := z
    exact ⟨v, hv, v0, h0, a1, a2, a3, a4, e1, e2, hS, hat, p, ys, e, h, i, j, e3, e4, k, e5, hq _ _ z⟩
  rintro σ' H1 ⟨g1, pl, k, dn, u4, u5, rfl, hM, hk⟩
  refine ⟨_, rfl, _, rfl, ra, _, _, _, rfl, rfl, SqT.of (g1 _ _ r1), rfl, rq, _, rfl, .inr (SqT.of (g1 _ _ r2)), _, _, rfl, rfl, _, rfl, ?_⟩
  refine ite2 (fun z => ?_) (fun z => ?_)
  · have z := of_decide_eq_true z
    rw [nl] at z
    have hpl : pl < W.length := by omega
    obtain ⟨k', rfl⟩ : ∃ k', k = k' + 1 := ⟨k - 1, by omega⟩
    have hM : mksRow (n, W, TB) = dn ++ (mkOne TB n W pl ++ mkFuel TB n W k' (pl + max (dueN W pl (keysA TB)) 1)) := by
      rw [hM]
      congr 1
      exact if_pos hpl
    refine ⟨_, rfl, ra, _, _, _, rfl, rfl, SqT.of (g1 _ _ r1), rfl, _, rfl, ra, _, _, _, rfl, rfl, SqT.of (g1 _ _ r1), rfl, _, rfl, rd, rq, kvs, TB, W, pl, rfl, g1 _ _ r3, tab_mono hT fun _ _ z => z.mono g1.t, g1 _ _ r2, hT9, by omega, hk9, fun H2 g2 => ?_⟩
    have g12 := g1.trans g2
    generalize hm : dueN W pl (keysA TB) = m at hM
    refine gn_rdB ?_
    refine seqif_post (decide (((m : Nat) : Int) > 0)) (fun σ H3 => Same H H3 ∧ ∃ u5, σ = [some (.ref ra), some (.ref fl), some (.int ((pre ++ (dn ++ mkOne TB n W pl)).length : Nat)), some (.int (pl : Nat)), some (.int (m : Nat)), u5]) (fun Q q => ⟨_, rfl, _, _, rfl, rfl, _, rfl, q⟩) (fun z2 Nx hN => ?_) (fun z2 => ?_) ?_
    · have m0 : 0 < m := by have := of_decide_eq_true z2; omega
      have hkey : (W.drop pl).take m ∈ keysA TB := by rw [← hm]; exact due_key (by rw [hm]; exact m0)
      obtain ⟨wv, hwv⟩ := Option.isSome_iff_exists.mp ((keys_look TB _).mp hkey)
      have hOne : mkOne TB n W pl = [(n, (pl : Int), ((m : Nat) : Int), wv)] := by
        unfold mkOne
        rw [hm, if_pos m0, hwv] <;> rfl
      refine ⟨_, rfl, ra, _, _, _, rfl, rfl, SqT.of (g12 _ _ r1), rfl, _, rfl, _, rfl, _, rfl, ra, _, _, _, rfl, rfl, SqT.of (g12 _ _ r1), rfl, _, rfl, ra, _, _, _, rfl, rfl, SqT.of (g12 _ _ r1), rfl, _, rfl, _, rfl, _, rfl, _, rfl, _, _, rfl, rfl, _, rfl, rq, _, rfl, g12 _ _ r2, fun p3 H3 g3 e3 => ?_⟩
      have e3 : H3 p3 = some (.tup (cutV (W.map V.str) (some ((pl : Nat) : Int)) (some (((pl : Nat) : Int) + ((m : Nat) : Int))))) := e3
      have ek : cutV (W.map V.str) (some ((pl : Nat) : Int)) (some (((pl : Nat) : Int) + ((m : Nat) : Int))) = ((W.drop pl).take m).map V.str := by
        rw [show ((pl : Nat) : Int) + ((m : Nat) : Int) = ((pl + m : Nat) : Int) by omega, cutV_mid, List.map_take, List.map_drop]
        congr 1
        omega
      rw [ek] at e3
      have g13 := g12.trans g3
      obtain ⟨wp, ewp, hwp⟩ : ∃ wp, valV kvs (inr ((W.drop pl).take m)) = some (.ref wp) ∧ H3 wp = some (.tup (wv.map V.int)) := by
        rcases tab_look (k := (W.drop pl).take m) (tab_mono hT (R := wnR) (H' := H3) fun _ _ z => z.mono g13.t) with ⟨e1, e2⟩ | ⟨v, x2, e1, e2, wp, rfl, h⟩
        · rw [hwv] at e1; cases e1
        · rw [hwv] at e1
          cases e1
          exact ⟨wp, e2, h⟩
      refine ⟨rd, .ref wp, rfl, by rw [← ewp]; exact DGet.t (g13 _ _ r3) (by rw [inr_kV]; exact e3), ?_⟩
      refine ⟨(by show 4 ≤ sizeLine; decide), fun t4 ht4 => ?_⟩
      have g4 := same_new ht4 (.tup [.int n, .int (pl : Nat), .int (m : Nat), .ref wp])
      have e4 : upd H3 t4 (.tup [.int n, .int (pl : Nat), .int (m : Nat), .ref wp]) t4 = some (.tup [.int n, .int (pl : Nat), .int (m : Nat), .ref wp]) := upd_same
      generalize upd H3 t4 (.tup [.int n, .int (pl : Nat), .int (m : Nat), .ref wp]) = H4 at g4 e4
      have g14 := g13.trans g4
      have hat : (pre ++ (mksRow (n, W, TB) ++ post))[(pre ++ dn).length]? = some (n, (pl : Int), ((m : Nat) : Int), wv) := by
        rw [hM, hOne]
        rw [show pre ++ (dn ++ ([(n, (pl : Int), ((m : Nat) : Int), wv)] ++ mkFuel TB n W k' (pl + max m 1)) ++ post) = (pre ++ dn) ++ ((n, (pl : Int), ((m : Nat) : Int), wv) :: (mkFuel TB n W k' (pl + max m 1) ++ post)) by simp, List.getElem?_append_right (Nat.le_refl _), Nat.sub_self] <;> rfl
      obtain ⟨fv, hfv, hfm⟩ := paired_at hms hat
      have hfl' := (List.getElem?_eq_some_iff.mp hfv).1
      obtain ⟨fa, fp, rfl, f1, f2⟩ := hfm.mono g14.t
      refine gn_rdB ?_
      refine seqif_sm false (or_sm false false (fun Q q => ⟨_, rfl, _, rfl, fl, _, rfl, .inl (SqL.of (g14 _ _ hfl)), _, _, rfl, rfl, _, rfl, ?_⟩) (fun _ H5 g5 Q q => ⟨_, rfl, _, rfl, fl, _, _, _, rfl, rfl, SqL.of (g5 _ _ (g14 _ _ hfl)), atI_nat hfv, _, rfl, fa, t4, _, _, rfl, rfl, SqT.of (g5 _ _ f1), SqT.of (g5 _ _ e4), ?_, _, rfl, q _ (Same.refl _)⟩)) (fun z => by cases z) (fun _ H5 g5 => ?_)
      · rw [show decide (((pre ++ dn).length : Int) ≥ ((xs.length : Nat) : Int)) = false from decide_eq_false (by omega)]
        exact q _ (Same.refl _)
      · intro pins σ s A I hu
        exact .cons (eqS_int _) (.cons (eqS_int _) (.cons (eqS_int _) (.cons (eqS_tup I (SqT.of (g5 _ _ f2)) (SqT.of (g5 _ _ (g4 _ _ hwp))) (by omega) (eqS_ints _)) .nil)))
      · refine ⟨_, rfl, _, _, rfl, rfl, ?_⟩
        refine hN _ _ ⟨g14.trans g5, some (.ref t4), ?_⟩
        have el : (((pre ++ dn).length : Nat) : Int) + 1 = (((pre ++ (dn ++ mkOne TB n W pl)).length : Nat) : Int) := by
          rw [hOne, ← List.append_assoc, List.length_append (as := pre ++ dn), List.length_singleton]
          omega
        show [_, _, some (V.int ((((pre ++ dn).length : Nat) : Int) + 1)), _, _, _] = _
        rw [el]
    · have m0 : ¬ 0 < m := by have := of_decide_eq_false z2; omega
      have hOne : mkOne TB n W pl = [] := by
        unfold mkOne
        rw [hm, if_neg m0]
      rw [hOne, List.append_nil]
      exact ⟨g12, _, rfl⟩
    · rintro σ3 H3 ⟨g3, u5', rfl⟩
      refine ⟨_, rfl, _, rfl, _, _, rfl, _, _, rfl, rfl, ?_⟩
      have em : ((pl : Nat) : Int) + (if (1 : Int) > ((m : Nat) : Int) then 1 else ((m : Nat) : Int)) = ((pl + max m 1 : Nat) : Int) := by
        by_cases h : (1 : Int) > ((m : Nat) : Int)
        · rw [if_pos h]
          omega
        · rw [if_neg h]
          omega
      show (Same H H3 ∧ ∃ (pl2 k : Nat) (dn : List Mk) (u4 u5 : Option V), [_, _, _, some (V.int (((pl : Nat) : Int) + (if (1 : Int) > ((m : Nat) : Int) then 1 else ((m : Nat) : Int)))), _, _] = [some (.ref ra), some (.ref fl), some (.int ((pre ++ dn).length : Nat)), some (.int (pl2 : Nat)), u4, u5] ∧ mksRow (n, W, TB) = dn ++ mkFuel TB n W k pl2 ∧ W.length < pl2 + k) ∧ W.length - (((pl : Nat) : Int) + (if (1 : Int) > ((m : Nat) : Int) then 1 else ((m : Nat) : Int))).toNat < W.length - (((pl : Nat) : Int)).toNat
      rw [em]
      exact ⟨⟨g3, pl + max m 1, k', dn ++ mkOne TB n W pl, _, _, rfl, by rw [hM, List.append_assoc], by omega⟩, by omega⟩
  · have z := of_decide_eq_false (Bool.eq_false_iff.mpr z)
    rw [nl] at z
    rw [mkFuel_end (by omega), List.append_nil] at hM
    rw [hM] at q
    exact ⟨_, rfl, q _ g1⟩
end
end D
namespace D
open PySem L2
theorem BOk.fold {fo n : Int} : ∀ (L : List (List Str)) {B : Best} {m : Nat} {c : List Str → Nat}, BOk B m c → BOk (L.foldl (stepB fo n) B) (m + L.length) (fun j => c j + L.count j)
  | [], B, m, c, h => h
  | k :: L, B, m, c, h => by
    have := BOk.fold (fo := fo) (n := n) L (h.step fo n k)
    refine BOk.mono this (by rw [List.length_cons]; omega) fun j => ?_
    rw [List.count_cons]
    by_cases e : j = k
    · rw [if_pos e, if_pos (by rw [e]; exact beq_self_eq_true k)]
      omega
    · rw [if_neg e]
      omega
theorem BOk.fold2 {pl : List Int} : ∀ (ts : List Tl) {B : Best} {m c : Nat}, (∀ t ∈ ts, t.2.2.2.Nodup ∧ t.2.2.2.length ≤ 6) → BOk B m (fun _ => c) → BOk (ts.foldl (tellB pl) B) (m + 6 * ts.length) (fun _ => c + ts.length)
  | [], B, m, c, _, h => h
  | t :: ts, B, m, c, hk, h => by
    obtain ⟨h1, h2⟩ := hk t List.mem_cons_self
    have s1 : BOk (tellB pl B t) (m + 6) (fun _ => c + 1) := BOk.mono (BOk.fold (fo := forceD t.2.1 t.2.2.1 pl) (n := t.1) t.2.2.2 h) (by omega) fun j => by
      have := count_take h1 j
      show c + _ ≤ c + 1
      omega
    have := BOk.fold2 (pl := pl) ts (fun u hu => hk u (List.mem_cons_of_mem _ hu)) s1
    exact BOk.mono this (by rw [List.length_cons]; omega) fun j => by show _ ≤ c + (ts.length + 1); omega
theorem best_ok {pl : List Int} {ts : List Tl} (h : TlsOk ts) : BOk (bestD pl ts) (6 * ts.length) (fun _ => ts.length) := by
  have h0 : BOk ([] : Best) 0 (fun _ => 0) := ⟨List.nodup_nil, Nat.le_refl _, fun k b e => by cases e⟩
  have := BOk.fold2 (pl := pl) ts (fun t ht => ⟨(h.ok t ht).1, (h.ok t ht).2.1⟩) h0
  exact BOk.mono this (by omega) fun _ => by omega
theorem keys_step {fo n : Int} {B : Best} {k : List Str} {Pk : List Str → Prop} (h : ∀ j ∈ keysA B, Pk j) (hk : Pk k) : ∀ j ∈ keysA (stepB fo n B k), Pk j := by
  intro j hj
  unfold stepB at hj
  by_cases e : 0 ≤ fo ∧ (getB B k).1 ≤ fo
  · rw [if_pos e, keys_look, look_put] at hj
    by_cases z : j = k
    · rw [z]; exact hk
    · rw [if_neg z] at hj
      exact h j ((keys_look B j).mpr hj)
  · rw [if_neg e] at hj
    exact h j hj
theorem keys_fold {fo n : Int} {Pk : List Str → Prop} : ∀ (L : List (List Str)) {B : Best}, (∀ l ∈ L, Pk l) → (∀ j ∈ keysA B, Pk j) → ∀ j ∈ keysA (L.foldl (stepB fo n) B), Pk j
  | [], _, _, h => h
  | k :: L, B, hL, h => keys_fold L (fun l hl => hL l (List.mem_cons_of_mem _ hl)) (keys_step h (hL k List.mem_cons_self))
theorem keys_fold2 {pl : List Int} {Pk : List Str → Prop} : ∀ (ts : List Tl) {B : Best}, (∀ t ∈ ts, ∀ l ∈ t.2.2.2, Pk l) → (∀ j ∈ keysA B, Pk j) → ∀ j ∈ keysA (ts.foldl (tellB pl) B), Pk j
  | [], _, _, h => h
  | t :: ts, B, hT, h => keys_fold2 ts (fun u hu => hT u (List.mem_cons_of_mem _ hu)) (keys_fold t.2.2.2 (hT t List.mem_cons_self) h)
structure WinOk (T : Tab (List Int)) : Prop where
  nd : (keysA T).Nodup
  len : T.length ≤ 150
  win : ∀ k w, lookA T k = some w → w.length ≤ 25
  key : ∀ k ∈ keysA T, 1 ≤ k.length ∧ k.length ≤ 4
structure TlsK (ts : List Tl) : Prop where
  ok : TlsOk ts
  sh : ∀ t ∈ ts, ∀ l ∈ t.2.2.2, 1 ≤ l.length ∧ l.length ≤ 4
theorem TlsK.win {ts : List Tl} (h : TlsK ts) (pl : List Int) : WinOk (winD pl ts) := by
  have hb := best_ok (pl := pl) h.ok
  have h25 := h.ok.few
  have ek : keysA (winD pl ts) = keysA (bestD pl ts) := keys_due _
  refine ⟨by rw [ek]; exact hb.nd, ?_, fun k w e => ?_, fun k hk => ?_⟩
  · unfold winD
    rw [List.length_map]
    exact Nat.le_trans hb.len (by omega)
  · unfold winD at e
    rw [look_due] at e
    cases q : lookA (bestD pl ts) k with
    | none => rw [q] at e; cases e
    | some b =>
      rw [q] at e
      cases e
      have := hb.few k b q
      unfold sortI
      rw [List.length_mergeSort]
      omega
  · rw [ek] at hk
    exact keys_fold2 (Pk := fun l => 1 ≤ l.length ∧ l.length ≤ 4) ts h.sh (fun _ z => by cases z) k hk
theorem shT_ok {ws : List Str} {sc : Str} {ph : List Str} {bs : List (Str × Str)} {ms : List Str} (h : TlOk ws sc ph bs ms) : (shT ph bs).Nodup ∧ (shT ph bs).length ≤ 6 := by
  obtain ⟨_, _, _, hb5, ⟨p0, last, rfl, os, hp, hn, how⟩, _⟩ := h
  have e : shT (p0 ++ [last]) bs = (last :: os).map fun o => p0 ++ [o] := by
    rw [shT_snoc, List.map_cons]
    congr 1
    clear hn hb5 how
    induction hp with
    | nil => rfl
    | cons h r ih => rw [List.map_cons, List.map_cons, bendW_of h, ih]
  rw [e]
  refine ⟨?_, ?_⟩
  · refine List.Pairwise.map _ (fun a b hab z => hab ?_) hn
    have := List.append_cancel_left z
    exact (List.cons.inj this).1
  · rw [List.length_map, List.length_cons, ← Paired.length hp]
    omega
theorem shT_len {ws : List Str} {sc : Str} {ph : List Str} {bs : List (Str × Str)} {ms : List Str} (h : TlOk ws sc ph bs ms) : ∀ l ∈ shT ph bs, 1 ≤ l.length ∧ l.length ≤ 4 := by
  obtain ⟨_, h4, _, _, ⟨p0, last, rfl, _⟩, _⟩ := h
  rw [List.length_append] at h4
  have h4 : p0.length + 1 ≤ 4 := h4
  intro l hl
  rw [shT_snoc] at hl
  have two : ∀ x : Str, 1 ≤ (p0 ++ [x]).length ∧ (p0 ++ [x]).length ≤ 4 := fun x => by
    rw [List.length_append]
    show 1 ≤ p0.length + 1 ∧ p0.length + 1 ≤ 4
    omega
  rcases List.mem_cons.mp hl with e | e
  · rw [e]; exact two _
  · obtain ⟨b, _, rfl⟩ := List.mem_map.mp e
    exact two _
theorem tls_ok : ∀ {f : L2.F} {p : List Int} {ws : List Str}, ThsOk ws f → p.length + f.dep ≤ 1000 → ∀ t ∈ tlsF f p, (t.2.2.2.Nodup ∧ t.2.2.2.length ≤ 6 ∧ t.2.2.1.length ≤ 1000) ∧ ∀ l ∈ t.2.2.2, 1 ≤ l.length ∧ l.length ≤ 4
  | .nil, _, _, _, _, _, h => nomatch h
  | .say m zs r, p, ws, ho, hd, t, h => tls_ok (f := r) (fun u hu => ho u (List.mem_cons_of_mem _ hu)) hd t h
  | .tell m sc ph bs ms r, p, ws, ho, hd, t, h => by
    have hd' : p.length + r.dep ≤ 1000 := hd
    rcases List.mem_cons.mp h with e | e
    · subst e
      obtain ⟨h1, h2⟩ := shT_ok (ho _ List.mem_cons_self)
      exact ⟨⟨h1, h2, by show p.length ≤ 1000; omega⟩, shT_len (ho _ List.mem_cons_self)⟩
    · exact tls_ok (f := r) (fun u hu => ho u (List.mem_cons_of_mem _ hu)) hd' t e
  | .part m j r, p, ws, ho, hd, t, h => by
    have hd' : p.length + max (j.dep + 1) r.dep ≤ 1000 := hd
    rcases List.mem_append.mp h with e | e
    · exact tls_ok (f := j) (fun u hu => ho u (List.mem_cons_of_mem _ (List.mem_append_left _ hu))) (by rw [List.length_append, List.length_singleton]; omega) t e
    · exact tls_ok (f := r) (fun u hu => ho u (List.mem_cons_of_mem _ (List.mem_append_right _ hu))) (by omega) t e
structure DocK (ws : List Str) (f : L2.F) : Prop where
  dep : f.dep ≤ 8
  nd : (f.ord.map Th.num).Nodup
  pos : ∀ t ∈ f.ord, 0 < t.num ∧ t.num < 10 ^ 43
  few : f.ord.length ≤ 25
  ok : ThsOk ws f
theorem DocK.tls {ws : List Str} {f : L2.F} (h : DocK ws f) : TlsK (tlsF f [0]) :=
  ⟨⟨Nat.le_trans (tls_len f [0]) h.few, fun t ht => (tls_ok h.ok (by have := h.dep; show 1 + f.dep ≤ 1000; omega) t ht).1⟩, fun t ht => (tls_ok h.ok (by have := h.dep; show 1 + f.dep ≤ 1000; omega) t ht).2⟩
theorem rm_mem {ts : List Tl} : ∀ {f : L2.F} {p : List Int} {x : Rm}, x ∈ rmF ts f p → (∃ p', x.2.2 = winD p' ts) ∧ ∃ t ∈ f.ord, (∃ n, t = .say n x.2.1) ∨ ∃ n sc ph bs, t = .tell n sc ph bs x.2.1
  | .nil, _, _, h => nomatch h
  | .say n ws r, p, x, h => by
    rcases List.mem_cons.mp h with e | e
    · subst e
      exact ⟨⟨p, rfl⟩, _, List.mem_cons_self, .inl ⟨n, rfl⟩⟩
    · obtain ⟨h1, t, ht, z⟩ := rm_mem (f := r) e
      exact ⟨h1, t, List.mem_cons_of_mem _ ht, z⟩
  | .tell n sc ph bs ms r, p, x, h => by
    rcases List.mem_cons.mp h with e | e
    · subst e
      exact ⟨⟨p, rfl⟩, _, List.mem_cons_self, .inr ⟨n, sc, ph, bs, rfl⟩⟩
    · obtain ⟨h1, t, ht, z⟩ := rm_mem (f := r) e
      exact ⟨h1, t, List.mem_cons_of_mem _ ht, z⟩
  | .part n i r, p, x, h => by
    rcases List.mem_append.mp h with e | e
    · obtain ⟨h1, t, ht, z⟩ := rm_mem (f := i) e
      exact ⟨h1, t, List.mem_cons_of_mem _ (List.mem_append_left _ ht), z⟩
    · obtain ⟨h1, t, ht, z⟩ := rm_mem (f := r) e
      exact ⟨h1, t, List.mem_cons_of_mem _ (List.mem_append_right _ ht), z⟩
def marksD (f : L2.F) : List Mk := (rmF (tlsF f [0]) f [0]).flatMap mksRow
theorem DocK.rm {ws : List Str} {f : L2.F} (h : DocK ws f) {x : Rm} (hx : x ∈ rmF (tlsF f [0]) f [0]) : x.2.1.length ≤ 200 ∧ WinOk x.2.2 := by
  obtain ⟨⟨p', e⟩, t, ht, z⟩ := rm_mem hx
  refine ⟨?_, by rw [e]; exact h.tls.win p'⟩
  have hk := h.ok t ht
  rcases z with ⟨n, rfl⟩ | ⟨n, sc, ph, bs, rfl⟩
  · exact hk.2.1
  · obtain ⟨_, _, _, _, _, _, h4, _⟩ := hk
    omega
theorem fuel_win {T : Tab (List Int)} (h : WinOk T) {n : Int} {W : List Str} : ∀ {k p : Nat} {m : Mk}, m ∈ mkFuel T n W k p → m.2.2.2.length ≤ 25
  | 0, _, _, hm => nomatch hm
  | k + 1, p, m, hm => by
    have hm : m ∈ if p < W.length then mkOne T n W p ++ mkFuel T n W k (p + max (dueN W p (keysA T)) 1) else [] := hm
    by_cases hp : p < W.length
    · rw [if_pos hp] at hm
      rcases List.mem_append.mp hm with e | e
      · unfold mkOne at e
        by_cases h0 : 0 < dueN W p (keysA T)
        · rw [if_pos h0] at e
          rw [List.mem_singleton.mp e]
          show ((lookA T ((W.drop p).take (dueN W p (keysA T)))).getD []).length ≤ 25
          cases q : lookA T ((W.drop p).take (dueN W p (keysA T))) with
          | none => exact Nat.zero_le _
          | some w => exact h.win _ w q
        · rw [if_neg h0] at e
          cases e
      · exact fuel_win h e
    · rw [if_neg hp] at hm
      cases hm
theorem DocK.marks {ws : List Str} {f : L2.F} (h : DocK ws f) : ∀ m ∈ marksD f, m.2.2.2.length ≤ 25 := fun m hm => by
  obtain ⟨x, hx, hm⟩ := List.mem_flatMap.mp hm
  exact fuel_win (h.rm hx).2 hm
end D
namespace D
open PySem L2
def DocX (f : L2.F) : Prop := ∃ ws, MnOk ws ∧ DocK ws f
def spWalked : Sp := fun vs H Q _ => ∃ (v : V) (fl : Addr) (f : L2.F) (xs : List V), vs = [v, .ref fl] ∧ partR H 0 f v ∧ DocX f ∧ H fl = some (.lst xs) ∧ mksR H (marksD f) xs ∧ ∀ H', Same H H' → Q (.bl true) H'
section
variable {P : Program} {w : World} {K : PySem.W.Frag} {mg : Str → Option Value} {base : Heap} {f : Addr} {fd : FuncData}
theorem scWalked : FnScope ["_law_doc_here", "_law_found", "_law_at", "_law_row_here"] ["_law_doc_here", "_law_found"] (defScope s_l_walked) := ⟨rfl, rfl, rfl, by decide +kernel, rfl, by decide +kernel, by decide +kernel⟩
set_option maxHeartbeats 8000000 in
theorem ok_walked (F : Fun K "_law_walked" "_law_walked" s_l_walked f fd) (T : Nm mg) (GK : Def P w K mg base CX0 2 "_law_kinds" ["_law_found"] spKinds) (GT : Def P w K mg base CX0 10 "_law_tellings" ["_law_things", "_law_path"] (spTls 9)) (GR : Def P w K mg base CX0 11 "_law_rows" ["_law_part", "_law_path", "_law_tellings_here"] (spRm 9)) (GM : Def P w K mg base CX0 6 "_law_row_marked" ["_law_row_here", "_law_found", "_law_at"] spRowM) : FnOk P w K mg base CX0 12 f fd ["_law_doc_here", "_law_found"] spWalked := by
  refine F.ok scWalked (fun vs H Q E h => ?_) (fun cdv A outer s H vs Q E hr h => ?_)
  · obtain ⟨_, _, _, _, rfl, _⟩ := h
    rfl
  obtain ⟨v, fl, fo, xs, rfl, hv, hd, hfl, hms, q⟩ := h
  refine ⟨_, pss_cons (ps_if (pt_not (pt_val (pe_def GK (hr.mono (by omega)) (pa_cons (pv 1) pa_nil)))) (pss_one (ps_ret pe_bl)) pss_nil)
    (pss_cons (ps_set (i := 2) scWalked.nd rfl (Or.inl rfl) pe_int)
    (pss_cons (ps_for PassesOwn.never rfl (pi_list (pe_def GR hr (pa_cons (pv 0) (pa_cons (pe_tup (pa_cons pe_int pa_nil)) (pa_cons (pe_def GT (hr.mono (by omega)) (pa_cons (pe_ix ix_tup (pv 0) pe_int (fun _ _ => rfl)) (pa_cons (pe_tup (pa_cons pe_int pa_nil)) pa_nil))) pa_nil))))) (pg_name (i := 3) scWalked.nd rfl (Or.inl rfl))
      (pss_cons (ps_set (i := 2) scWalked.nd rfl (Or.inl rfl) (pe_def GM (hr.mono (by omega)) (pa_cons (pv 3) (pa_cons (pv 1) (pa_cons (pv 2) pa_nil)))))
      (pss_one (ps_if (pt_cmpR op_lt (pv 2) pe_int (nomark _)) (pss_one (ps_ret pe_bl)) pss_nil))))
    (pss_one (ps_ret (pe_cmpR op_eq (pv 2) (pe_callB call_len_seq rfl T.len PySem.boot_len (pa_cons (pv 1) pa_nil)) (nomark _)))))), ?_⟩
  have hb := big
  obtain ⟨ws, hmn, hdk⟩ := id hd
  have hdep := hdk.dep
  have hfew := hdk.few
  refine seqif_sm false (not_sm true (fun Q q => ⟨_, rfl, fl, xs, marksD fo, rfl, hfl, hms, fun m hm => Nat.le_trans (hdk.marks m hm) (by decide), fun H' g => ⟨_, rfl, q _ g⟩⟩)) (fun z => by cases z) (fun _ H1 g1 => ?_)
  obtain ⟨da, db, zs, rfl, _, _, _⟩ := id hv
  refine ⟨_, rfl, (by show 1 ≤ sizeLine; decide), fun t0 ht0 => ?_⟩
  have g2 := same_new ht0 (.tup [.int 0])
  have e2 : iT (upd H1 t0 (.tup [.int 0])) t0 [0] := upd_same
  generalize upd H1 t0 (.tup [.int 0]) = H2 at g2 e2
  have g12 := g1.trans g2
  obtain ⟨da', db', zs', eq', k1, k2, k3⟩ := thR.mono (t := .part 0 fo) hv g12.t
  cases eq'
  refine ⟨_, rfl, da, _, _, _, rfl, rfl, SqT.of k1, rfl, (by show 1 ≤ sizeLine; decide), fun t1 ht1 => ?_⟩
  have g3 := same_new ht1 (.tup [.int 0])
  have e3 : iT (upd H2 t1 (.tup [.int 0])) t1 [0] := upd_same
  generalize upd H2 t1 (.tup [.int 0]) = H3 at g3 e3
  refine ⟨db', t1, zs', fo, [0], ws, rfl, g3 _ _ k2, fR_mono g3.t k3, e3, by omega, by omega, by show 1 + _ ≤ 1000; omega, hmn, hdk.ok, fun tl ys H4 g4 _ htl hys => ?_⟩
  have g24 := g3.trans g4
  have g14 := g12.trans g24
  refine ⟨da, t0, tl, 0, fo, [0], tlsF fo [0], ys, rfl, thR.mono (t := .part 0 fo) hv g14.t, g24 _ _ e2, htl, hys, hdk.tls.ok, by omega, by omega, by show 1 + _ ≤ 1000; omega, fun rr rs H5 g5 _ e5 hrs => ?_⟩
  have g15 := g14.trans g5
  have rl := Paired.length hrs
  refine ⟨rr, rfl, ⟨_, SqL.of e5⟩, ?_⟩
  refine for_list (K := K) (a := rr) (xs := rs) (fun i σ' H' => Same H5 H' ∧ ∃ u3, σ' = [some (.ref da), some (.ref fl), some (.int ((((rmF (tlsF fo [0]) fo [0]).take i).flatMap mksRow).length : Nat)), u3]) ⟨Same.refl _, _, rfl⟩ (fun i σ' H' _ h => SqL.of (h.1 _ _ e5)) ?_ ?_
  · rintro i y σ' H6 hi ⟨g6, u3, rfl⟩
    obtain ⟨x, ex, hx⟩ := paired_get hrs hi
    have hx6 := hx.mono g6
    obtain ⟨ra, _, _, _, rfl, _⟩ := id hx6
    obtain ⟨hW, hO⟩ := hdk.rm (List.mem_of_getElem? ex)
    have g16 := g15.trans g6
    have eT : ((rmF (tlsF fo [0]) fo [0]).take (i + 1)).flatMap mksRow = ((rmF (tlsF fo [0]) fo [0]).take i).flatMap mksRow ++ mksRow x := by
      rw [List.take_add_one, ex, List.flatMap_append]
      show _ ++ (mksRow x ++ []) = _
      rw [List.append_nil]
    have eM : marksD fo = ((rmF (tlsF fo [0]) fo [0]).take i).flatMap mksRow ++ (mksRow x ++ ((rmF (tlsF fo [0]) fo [0]).drop (i + 1)).flatMap mksRow) := by
      rw [← List.append_assoc, ← eT, ← List.flatMap_append, List.take_append_drop] <;> rfl
    refine ⟨_, rfl, _, rfl, _, rfl, ra, fl, x, xs, _, _, rfl, hx6, g16 _ _ hfl, by rw [← eM]; exact hms.mono g16.t, by omega, by have := hO.len; omega, fun t ht => ?_, fun H7 g7 => ?_⟩
    · have := (hO.key t.1 (List.mem_map.mpr ⟨t, ht, rfl⟩)).2
      omega
    · rw [← eT]
      refine gn_rdB ?_
      refine oneif_post false (fun Q q => ⟨_, rfl, _, _, rfl, rfl, _, rfl, ?_⟩) (fun z => by cases z) (fun _ => ⟨g6.trans g7, _, rfl⟩)
      rw [show decide (((((rmF (tlsF fo [0]) fo [0]).take (i + 1)).flatMap mksRow).length : Int) < 0) = false from decide_eq_false (by omega)]
      exact q
  · rintro σ' H6 ⟨g6, u3, rfl⟩
    have g16 := g15.trans g6
    rw [← rl, List.take_length]
    refine ⟨_, rfl, _, rfl, fl, _, rfl, .inl (SqL.of (g16 _ _ hfl)), rfl, ?_⟩
    rw [← Paired.length hms, show decide (V.int (((rmF (tlsF fo [0]) fo [0]).flatMap mksRow).length : Nat) = V.int ((marksD fo).length : Nat)) = true from decide_eq_true rfl]
    exact q _ g16
end
end D
namespace D
open PySem L2
theorem ord_ofA (ts : List Th) : (L2.F.of ts).ord = ts.flatMap Th.ord := by rw [ord_flat, ths_of]
theorem numA_le (ns : List Int) {j : Nat} (hj : j < 60) : numA ns (j : Nat) ≤ 100 * (1 + cellZ ns 3 / 3 % 10 ^ (40 : Int).toNat) := by
  unfold numA
  have s0 : 0 ≤ cellZ ns 3 / 3 % 10 ^ (40 : Int).toNat := Int.emod_nonneg _ (by decide)
  generalize cellZ ns 3 / 3 % 10 ^ (40 : Int).toNat = s at s0
  split
  · omega
  · split
    · exact Int.mul_le_mul_of_nonneg_right (by omega) (by omega)
    · exact Int.mul_le_mul_of_nonneg_right (by omega) (by omega)
theorem ths_le : ∀ ts : List Th, ts.length ≤ (ts.flatMap Th.ord).length
  | [] => Nat.le_refl _
  | t :: r => by
    have h := ths_le r
    have h1 : 1 ≤ t.ord.length := by cases t <;> simp [Th.ord]
    rw [List.flatMap_cons, List.length_append, List.length_cons]
    omega
def newN (ns : List Int) : Int := 101 * (1 + cellZ ns 3 / 3 % 10 ^ (40 : Int).toNat) + 1
theorem newN_ok (ns : List Int) : 0 < newN ns ∧ newN ns < 10 ^ 43 ∧ ∀ j : Nat, j < 60 → numA ns (j : Nat) < newN ns := by
  have s0 : 0 ≤ cellZ ns 3 / 3 % 10 ^ (40 : Int).toNat := Int.emod_nonneg _ (by decide)
  have s1 : cellZ ns 3 / 3 % 10 ^ (40 : Int).toNat < 10 ^ 40 := Int.emod_lt_of_pos _ (by decide)
  have h40 : (10 : Int) ^ 40 = 10000000000000000000000000000000000000000 := by decide
  have h43 : (10 : Int) ^ 43 = 10000000000000000000000000000000000000000000 := by decide
  unfold newN
  refine ⟨by omega, by omega, fun j hj => ?_⟩
  have := numA_le ns hj
  omega
theorem DocA.toK {ns : List Int} {ws : List Str} {f : L2.F} {m : Nat} (h : DocA ns ws f m) (hm : m ≤ 25) : DocK ws f := by
  refine ⟨h.dep, h.nd, fun t ht => ?_, by have := h.few; omega, h.ok⟩
  obtain ⟨j, hj, e⟩ := h.mem _ (List.mem_map.mpr ⟨t, ht, rfl⟩)
  rw [e]
  have h1 := numA_pos ns (k := (j : Nat)) (by omega) (by omega)
  have h2 := newN_ok ns
  have h3 := h2.2.2 j (by omega)
  exact ⟨h1, by omega⟩
theorem DocA.more {ns : List Int} {ws : List Str} {f : L2.F} {m : Nat} (h : DocA ns ws f m) (hm : m ≤ 24) {zs : List Str} (h1 : 1 ≤ zs.length) (h9 : zs.length ≤ 200) (hz : ∀ z ∈ zs, z ∈ ws) : DocK ws (L2.F.of (f.ths ++ [.say (newN ns) zs])) := by
  have g := h.toK (by omega)
  have eo : (L2.F.of (f.ths ++ [.say (newN ns) zs])).ord = f.ord ++ [.say (newN ns) zs] := by
    rw [ord_ofA, List.flatMap_append, ← ord_flat] <;> rfl
  have hn := newN_ok ns
  refine ⟨?_, ?_, ?_, ?_, ?_⟩
  · rw [dep_app, of_ths]
    have := g.dep
    show max f.dep 0 ≤ 8
    omega
  · rw [eo, List.map_append]
    refine List.nodup_append.mpr ⟨g.nd, by simp, fun a ha b hb e => ?_⟩
    have hb : b = newN ns := List.mem_singleton.mp hb
    obtain ⟨j, hj, ej⟩ := h.mem _ ha
    have := hn.2.2 j (by omega)
    omega
  · rw [eo]
    intro t ht
    rcases List.mem_append.mp ht with k | k
    · exact g.pos t k
    · rw [List.mem_singleton.mp k]
      exact ⟨hn.1, hn.2.1⟩
  · rw [eo, List.length_append]
    have := h.few
    show _ + 1 ≤ 25
    omega
  · show ∀ t ∈ (L2.F.of (f.ths ++ [.say (newN ns) zs])).ord, ThOk ws t
    rw [eo]
    intro t ht
    rcases List.mem_append.mp ht with k | k
    · exact g.ok t k
    · rw [List.mem_singleton.mp k]
      exact ⟨h1, h9, hz⟩
theorem gn_as {X b c : St → Hp → Prop} {r : VK} {i : Nat} {x : V} (y : V) {σ : St} {H : Hp} (e : x = y) (h : X (σ.set i (some y)) H) : gName i x σ H (Ends.nx { nx := X, rt := r, bk := b, ct := c }) := by
  rw [e]
  exact h
def smF : L2.F := .say 1 ["a"] (.tell 2 "here" ["a"] [] ["b"] .nil)
theorem sm_marks : marksD smF = [(1, 0, 1, [2])] := by decide +kernel
theorem sm_doc : DocX smF := by
  refine ⟨["a", "b", "c"], ⟨by decide +kernel, ?_, by decide, by decide⟩, ⟨by decide, by decide +kernel, ?_, by decide, ?_⟩⟩
  · intro x hx
    have : x = "a" ∨ x = "b" ∨ x = "c" := by simpa using hx
    rcases this with rfl | rfl | rfl <;> exact ⟨by decide +kernel, by decide +kernel, by unfold allGood; decide +kernel⟩
  · intro t ht
    have : t = .say 1 ["a"] ∨ t = .tell 2 "here" ["a"] [] ["b"] := by
      have ht : t ∈ [Th.say 1 ["a"], Th.tell 2 "here" ["a"] [] ["b"]] := ht
      simpa using ht
    rcases this with rfl | rfl <;> exact ⟨by decide, by decide⟩
  · intro t ht
    have : t = .say 1 ["a"] ∨ t = .tell 2 "here" ["a"] [] ["b"] := by
      have ht : t ∈ [Th.say 1 ["a"], Th.tell 2 "here" ["a"] [] ["b"]] := ht
      simpa using ht
    rcases this with rfl | rfl
    · exact ⟨by decide, by decide, fun z hz => by rw [List.mem_singleton.mp hz]; exact List.mem_cons_self⟩
    · refine ⟨by decide +kernel, by decide, fun z hz => by rw [List.mem_singleton.mp hz]; exact List.mem_cons_self, by decide, ⟨[], "a", rfl, [], .nil, by simp, fun _ z => nomatch z⟩, by decide, by decide, fun z hz => by rw [List.mem_singleton.mp hz]; exact List.mem_cons_of_mem _ List.mem_cons_self⟩
theorem same_mks {X : Cx} {H : Hp} : ∀ {ms : List Mk} {xs ys : List V}, mksR H ms xs → mksR H ms ys → SameL X 5 H xs ys
  | _, _, _, .nil, .nil => fun _ _ _ _ _ _ => .nil
  | _ :: _, _ :: _, _ :: _, .cons ⟨a, p, e1, h1, h2⟩ r, .cons ⟨b, q, e2, k1, k2⟩ r' => fun pins σ s A I hu => by
    subst e1 e2
    refine .cons (eqS_tup I (SqT.of h1) (SqT.of k1) (by omega) (.cons (eqS_int _) (.cons (eqS_int _) (.cons (eqS_int _) (.cons (eqS_tup I (SqT.of h2) (SqT.of k2) (by show A.units + 1 < cLine; omega) (eqS_ints _)) .nil))))) (same_mks r r' pins σ s A I hu)
def spMarks : Sp := fun vs H Q _ => ∃ (v : V) (f : L2.F), vs = [v] ∧ partR H 0 f v ∧ DocX f ∧ ∀ r xs H', Same H H' → H r = none → H' r = some (.lst xs) → mksR H' (marksD f) xs → Q (.ref r) H'
def spLaw (K : PySem.W.Frag) : Sp := fun vs H Q _ => ∃ (a : Addr) (ns : List Int), vs = [.ref a] ∧ SqL K H a (ns.map V.int) ∧ ns.length ≤ 63 ∧ ∀ H', Q (.bl true) H'
section
variable {P : Program} {w : World} {K : PySem.W.Frag} {mg : Str → Option Value} {base : Heap} {f : Addr} {fd : FuncData}
theorem scLaw : FnScope ["_law_script", "_law_free", "_law_menu_here", "_law_doc_here", "_law_number_here", "_law_more", "_law_found", "_law_first", "_law_part"] ["_law_script"] (defScope s_law) := ⟨rfl, rfl, rfl, by decide +kernel, rfl, by decide +kernel, by decide +kernel⟩
end
end D
namespace D
open PySem L2
abbrev NL33 : List Str := ["_law_script", "_law_free", "_law_menu_here", "_law_doc_here", "_law_number_here", "_law_more", "_law_found", "_law_first", "_law_part"]
section
variable {P : Program} {w : World} {K : PySem.W.Frag} {mg : Str → Option Value} {base : Heap} {f : Addr} {fd : FuncData}
set_option maxHeartbeats 2000000 in
theorem tail8 {cdv : Value} {A : Around} {outer : List Env} {s : Shared} {H : Hp} {E : XK} {kt : Nat} {p1 : List Str} (hr : Room kt (A.deeper (PyProof.Rows.envOfC "law" (defScope s_law) s.heap.objs.size f cdv))) (GM : Def P w K mg base CX0 kt "marks" p1 spMarks) :
    ∃ t, PSs (cxOf CX0 P w K mg base NL33 "law" (defScope s_law) f cdv A outer s H E).nox ((defBody s_law).drop 8) t ∧
      ∀ (v : V) (fl l1 a8 : Addr) (fo : L2.F) (xs : List V) (u0 u1 u2 u4 u5 : Option V) (H2 : Hp) (N : St → Hp → Prop) (Q : VK), partR H2 0 fo v → DocX fo → H2 fl = some (.lst xs) → mksR H2 (marksD fo) xs → H2 l1 = some (.lst xs) → partR H2 0 smF (.ref a8) → (∀ H', Q (.bl true) H') →
        t { nx := N, rt := Q } [u0, u1, u2, some v, u4, u5, some (.ref fl), some (.ref l1), some (.ref a8)] H2 := by
  have hu6 : (A.deeper (PyProof.Rows.envOfC "law" (defScope s_law) s.heap.objs.size f cdv)).units + 1 + 5 < cLine := by have := hr.un; omega
  refine ⟨_, (pss_cons (ps_if (pt_cmpR (op_neSL (n := 5) hu6) (pe_def GM hr (pa_cons (pv 8) pa_nil)) (pe_lst (pa_cons (pe_tup (pa_cons pe_int (pa_cons pe_int (pa_cons pe_int (pa_cons (pe_tup (pa_cons pe_int pa_nil)) pa_nil))))) pa_nil)) (by with_unfolding_all rfl)) (pss_one (ps_ret pe_bl)) pss_nil)
    (pss_one (ps_ret (pe_and (pe_cmpR (op_eqSL (n := 5) hu6) (pv 6) (pv 7) (nomark _)) (pe_one (pe_cmpR (op_eqSL (n := 5) hu6) (pe_def GM hr (pa_cons (pv 3) pa_nil)) (pv 7) (nomark _))))))), fun v fl l1 a8 fo xs u0 u1 u2 u4 u5 H2 N Q hv hX hfl hms hl1 hsm q => ?_⟩
  have hb := big
  refine ⟨_, rfl, .ref a8, smF, rfl, hsm, sm_doc, fun r x8 H3 g3 hr3 er3 hx3 => ?_⟩
  rw [sm_marks] at hx3
  refine ⟨(by show 1 ≤ sizeLine; decide), fun b1 hb1 => ⟨(by show 4 ≤ sizeLine; decide), fun b2 hb2 => ⟨(by show 1 ≤ sizeLine; decide), fun b3 hb3 => ?_⟩⟩⟩
  have g4 := same_new hb1 (.tup [.int 2])
  have g5 := same_new hb2 (.tup [.int 1, .int 0, .int 1, .ref b1])
  have g6 := same_new hb3 (.lst [.ref b2])
  have e1 := (g5.trans g6) _ _ (show upd H3 b1 (.tup [.int 2]) b1 = some (.tup [.int 2]) from upd_same)
  have e2 := g6 _ _ (show upd (upd H3 b1 (.tup [.int 2])) b2 (.tup [.int 1, .int 0, .int 1, .ref b1]) b2 = some (.tup [.int 1, .int 0, .int 1, .ref b1]) from upd_same)
  have e3 : upd (upd (upd H3 b1 (.tup [.int 2])) b2 (.tup [.int 1, .int 0, .int 1, .ref b1])) b3 (.lst [.ref b2]) b3 = some (.lst [.ref b2]) := upd_same
  have g36 := (g4.trans g5).trans g6
  generalize upd (upd (upd H3 b1 (.tup [.int 2])) b2 (.tup [.int 1, .int 0, .int 1, .ref b1])) b3 (.lst [.ref b2]) = H6 at e1 e2 e3 g36
  have hy : mksR H6 [(1, 0, 1, [2])] [.ref b2] := .cons ⟨b2, b1, rfl, e2, e1⟩ .nil
  refine ⟨r, b3, x8, [.ref b2], rfl, rfl, SqL.of (g36 _ _ er3), SqL.of e3, same_mks (hx3.mono g36.t) hy, _, rfl, ?_⟩
  refine iteF ?_
  have g26 := g3.trans g36
  have hms6 := hms.mono g26.t
  refine ⟨_, rfl, _, rfl, fl, l1, xs, xs, rfl, rfl, SqL.of (g26 _ _ hfl), SqL.of (g26 _ _ hl1), same_mks hms6 hms6, _, rfl, iteT ?_⟩
  refine ⟨_, rfl, v, fo, rfl, thR.mono (t := .part 0 fo) hv g26.t, hX, fun r7 x7 H7 g7 hr7 er7 hx7 => ?_⟩
  exact ⟨_, rfl, r7, l1, x7, xs, rfl, rfl, SqL.of er7, SqL.of (g7 _ _ (g26 _ _ hl1)), same_mks hx7 (hms6.mono g7.t), q _⟩
end
end D
namespace D
open PySem L2
def st7 : Stmt := (defBody s_law).getD 7 (.Pass ⟨0, 0, 0, 0⟩)
theorem star_c {z : Const} {k : Nat} {p : Pos} {es : List Expr} {env : Env} : starEach (.Constant z k p :: es) env = (false, eval (.Constant z k p) env) :: starEach es env := rfl
theorem star_t {l : List Expr} {k : Nat} {p : Pos} {es : List Expr} {env : Env} : starEach (.Tuple l k p :: es) env = (false, eval (.Tuple l k p) env) :: starEach es env := rfl
section
variable {X : Cx}
theorem pa_str {x : Str} {j : Nat} {p : Pos} {es : List Expr} {t : TA} (h : PA X es t) : PA X (.Constant (.str x) j p :: es) (tCons (tC (.str x)) t) := pa_cons pe_str h star_c
theorem pa_int {x : Int} {j : Nat} {p : Pos} {es : List Expr} {t : TA} (h : PA X es t) : PA X (.Constant (.int x) j p :: es) (tCons (tC (.int x)) t) := pa_cons pe_int h star_c
theorem pa_tup {l : List Expr} {k : Nat} {p : Pos} {es : List Expr} {t u : TA} (g : PA X l u) (h : PA X es t) : PA X (.Tuple l k p :: es) (tCons (tTup u) t) := pa_cons (pe_tup g) h star_t
end
def u1 : TA := tCons (tC (.str "say")) (tCons (tC (.int 1)) (tCons (tTup (tCons (tC (.str "a")) tNil)) tNil))
def u2 : TA := tCons (tC (.str "tell")) (tCons (tC (.int 2)) (tCons (tC (.str "here")) (tCons (tTup (tCons (tC (.str "a")) tNil)) (tCons (tTup tNil) (tCons (tTup (tCons (tC (.str "b")) tNil)) tNil)))))
def u3 : TA := tCons (tTup u1) (tCons (tTup u2) tNil)
def u4 : TA := tCons (tC (.str "part")) (tCons (tC (.int 0)) (tCons (tTup u3) tNil))
def e1 (a2 a3 a4 a5 : Pos) : List Expr := [.Constant (.str "say") 0 a2, .Constant (.int 1) 0 a3, .Tuple [.Constant (.str "a") 0 a4] 0 a5]
def e2 (a7 a8 a9 a10 a11 a12 a13 a14 : Pos) : List Expr := [.Constant (.str "tell") 0 a7, .Constant (.int 2) 0 a8, .Constant (.str "here") 0 a9, .Tuple [.Constant (.str "a") 0 a10] 0 a11, .Tuple [] 0 a12, .Tuple [.Constant (.str "b") 0 a13] 0 a14]
section
variable {X : Cx}
theorem pa_u1 {a2 a3 a4 a5 : Pos} : PA X (e1 a2 a3 a4 a5) u1 := by
  unfold e1 u1
  exact pa_str (pa_int (pa_tup (pa_str pa_nil) pa_nil))
theorem pa_u3 {a10 a11 a12 a13 a14 : Pos} : PA X [.Tuple [.Constant (.str "a") 0 a10] 0 a11, .Tuple [] 0 a12, .Tuple [.Constant (.str "b") 0 a13] 0 a14] (tCons (tTup (tCons (tC (.str "a")) tNil)) (tCons (tTup tNil) (tCons (tTup (tCons (tC (.str "b")) tNil)) tNil))) := pa_tup (pa_str pa_nil) (pa_tup pa_nil (pa_tup (pa_str pa_nil) pa_nil))
theorem pa_u2 {a7 a8 a9 a10 a11 a12 a13 a14 : Pos} : PA X (e2 a7 a8 a9 a10 a11 a12 a13 a14) u2 := by
  unfold e2 u2
  exact pa_str (pa_int (pa_str pa_u3))
theorem pa_u4 {l1 l2 : List Expr} {a6 a15 : Pos} (h1 : PA X l1 u1) (h2 : PA X l2 u2) : PA X [.Tuple l1 0 a6, .Tuple l2 0 a15] u3 := pa_tup h1 (pa_tup h2 pa_nil)
theorem pe_u5 {l3 : List Expr} {a0 a1 a16 a17 : Pos} (h : PA X l3 u3) : PE X (.Tuple [.Constant (.str "part") 0 a0, .Constant (.int 0) 0 a1, .Tuple l3 0 a16] 0 a17) (tTup u4) := pe_tup (pa_str (pa_int (pa_tup h pa_nil)))
end
theorem st7_is : ∃ (p c a0 a1 a2 a3 a4 a5 a6 a7 a8 a9 a10 a11 a12 a13 a14 a15 a16 a17 : Pos), st7 = .Assign [.Name "_law_part" p] (.Tuple [.Constant (.str "part") 0 a0, .Constant (.int 0) 0 a1, .Tuple [.Tuple (e1 a2 a3 a4 a5) 0 a6, .Tuple (e2 a7 a8 a9 a10 a11 a12 a13 a14) 0 a15] 0 a16] 0 a17) c :=
  ⟨_, _, _, _, _, _, _, _, _, _, _, _, _, _, _, _, _, _, _, _, rfl⟩
theorem split6 : (defBody s_law).drop 6 = (defBody s_law).getD 6 (.Pass ⟨0, 0, 0, 0⟩) :: st7 :: (defBody s_law).drop 8 := by rfl
end D
namespace D
open PySem L2
section
variable {X : Cx}
set_option maxHeartbeats 100000
theorem y1 {l2 : List Expr} {a2 a3 a4 a5 a6 a15 : Pos} (h2 : PA X l2 u2) : PA X [.Tuple (e1 a2 a3 a4 a5) 0 a6, .Tuple l2 0 a15] u3 := by
  have h1 : PA X (e1 a2 a3 a4 a5) u1 := pa_u1
  generalize e1 a2 a3 a4 a5 = l1 at h1 ⊢
  exact pa_u4 h1 h2
theorem y2 {a2 a3 a4 a5 a6 a7 a8 a9 a10 a11 a12 a13 a14 a15 : Pos} : PA X [.Tuple (e1 a2 a3 a4 a5) 0 a6, .Tuple (e2 a7 a8 a9 a10 a11 a12 a13 a14) 0 a15] u3 := by
  have h1 : PA X (e1 a2 a3 a4 a5) u1 := pa_u1
  have h2 : PA X (e2 a7 a8 a9 a10 a11 a12 a13 a14) u2 := pa_u2
  generalize e1 a2 a3 a4 a5 = l1 at h1 ⊢
  generalize e2 a7 a8 a9 a10 a11 a12 a13 a14 = l2 at h2 ⊢
  exact pa_u4 h1 h2
theorem y3 {a0 a1 a2 a3 a4 a5 a6 a7 a8 a9 a10 a11 a12 a13 a14 a15 a16 a17 : Pos} : PE X (.Tuple [.Constant (.str "part") 0 a0, .Constant (.int 0) 0 a1, .Tuple [.Tuple (e1 a2 a3 a4 a5) 0 a6, .Tuple (e2 a7 a8 a9 a10 a11 a12 a13 a14) 0 a15] 0 a16] 0 a17) (tTup u4) := by
  have h := @y2 X a2 a3 a4 a5 a6 a7 a8 a9 a10 a11 a12 a13 a14 a15
  generalize [Expr.Tuple (e1 a2 a3 a4 a5) 0 a6, .Tuple (e2 a7 a8 a9 a10 a11 a12 a13 a14) 0 a15] = l3 at h ⊢
  exact pe_u5 h
end
end D
namespace D
open PySem L2
section
variable {P : Program} {w : World} {K : PySem.W.Frag} {mg : Str → Option Value} {base : Heap} {f : Addr} {fd : FuncData}
theorem sw_t {l : List Expr} {k : Nat} {p : Pos} {t : Option Expr} {n : Nat} {env : Env} : swapsWith (.Tuple l k p) t n env = pure false := rfl
set_option maxHeartbeats 400000 in
theorem ps_gen {cdv : Value} {A : Around} {outer : List Env} {s : Shared} {H : Hp} {E : XK} {ex : Expr} {te : TE} {p c : Pos} (h : PE (cxOf CX0 P w K mg base NL33 "law" (defScope s_law) f cdv A outer s H E).nox ex te) (hs : swapsWith ex (some (.Name "_law_part" p)) c.line (cxOf CX0 P w K mg base NL33 "law" (defScope s_law) f cdv A outer s H E).nox.env = pure false) : PS (cxOf CX0 P w K mg base NL33 "law" (defScope s_law) f cdv A outer s H E).nox (.Assign [.Name "_law_part" p] ex c) (tAsg te (gName 8)) :=
  ps_set (i := 8) scLaw.nd rfl (Or.inl rfl) h hs
set_option maxHeartbeats 400000 in
theorem ps_sm {cdv : Value} {A : Around} {outer : List Env} {s : Shared} {H : Hp} {E : XK} : PS (cxOf CX0 P w K mg base NL33 "law" (defScope s_law) f cdv A outer s H E).nox st7 (tAsg (tTup u4) (gName 8)) := by
  obtain ⟨p, c, a0, a1, a2, a3, a4, a5, a6, a7, a8, a9, a10, a11, a12, a13, a14, a15, a16, a17, e⟩ := st7_is
  rw [e]
  have h := @y3 (cxOf CX0 P w K mg base NL33 "law" (defScope s_law) f cdv A outer s H E).nox a0 a1 a2 a3 a4 a5 a6 a7 a8 a9 a10 a11 a12 a13 a14 a15 a16 a17
  generalize [Expr.Constant (.str "part") 0 a0, .Constant (.int 0) 0 a1, .Tuple [.Tuple (e1 a2 a3 a4 a5) 0 a6, .Tuple (e2 a7 a8 a9 a10 a11 a12 a13 a14) 0 a15] 0 a16] = l4 at h ⊢
  exact ps_gen h sw_t
end
end D
namespace D
open PySem L2
section
variable {P : Program} {w : World} {K : PySem.W.Frag} {mg : Str → Option Value} {base : Heap} {f : Addr} {fd : FuncData}
theorem pss_glue {X : Cx} {l b8 : List Stmt} {s6 s7 : Stmt} {t6 t7 t8 : TS} (e : l = s6 :: s7 :: b8) (h6 : PS X s6 t6) (h7 : PS X s7 t7) (h8 : PSs X b8 t8) : PSs X l (tSeq t6 (tSeq t7 t8)) := by
  subst e
  exact pss_cons h6 (pss_cons h7 h8)
theorem ps_first {cdv : Value} {A : Around} {outer : List Env} {s : Shared} {H : Hp} {E : XK} (T : Nm mg) : ∃ te, PS (cxOf CX0 P w K mg base NL33 "law" (defScope s_law) f cdv A outer s H E).nox ((defBody s_law).getD 6 (.Pass ⟨0, 0, 0, 0⟩)) (tAsg te (gName 7)) ∧
    ∀ (σ : St) (H2 : Hp) (fl : Addr) (xs : List V) (Q : VK), σ[6]? = some (some (.ref fl)) → H2 fl = some (.lst xs) → (∀ l, H2 l = none → Q (.ref l) (upd H2 l (.lst xs))) → te σ H2 Q :=
  ⟨_, ps_set (i := 7) scLaw.nd rfl (Or.inl rfl) (pe_callTy call_list_of rfl T.list PyProof.Rows.boot_list (pa_cons (pv 6) pa_nil)), fun σ H2 fl xs Q h6 hfl q => ⟨_, h6, fl, xs, rfl, .inl (SqL.of hfl), q⟩⟩
set_option maxHeartbeats 2000000 in
theorem tail6g {X : Cx} {l b8 : List Stmt} {s6 s7 : Stmt} (e : l = s6 :: s7 :: b8) (H6 : ∃ te, PS X s6 (tAsg te (gName 7)) ∧ ∀ (σ : St) (H2 : Hp) (fl : Addr) (xs : List V) (Q : VK), σ[6]? = some (some (.ref fl)) → H2 fl = some (.lst xs) → (∀ l, H2 l = none → Q (.ref l) (upd H2 l (.lst xs))) → te σ H2 Q) (h7 : PS X s7 (tAsg (tTup u4) (gName 8))) (H8 : ∃ t, PSs X b8 t ∧ ∀ (v : V) (fl l1 a8 : Addr) (fo : L2.F) (xs : List V) (u0 u1 u2 u4 u5 : Option V) (H2 : Hp) (N : St → Hp → Prop) (Q : VK), partR H2 0 fo v → DocX fo → H2 fl = some (.lst xs) → mksR H2 (marksD fo) xs → H2 l1 = some (.lst xs) → partR H2 0 smF (.ref a8) → (∀ H', Q (.bl true) H') → t { nx := N, rt := Q } [u0, u1, u2, some v, u4, u5, some (.ref fl), some (.ref l1), some (.ref a8)] H2) :
    ∃ t, PSs X l t ∧
      ∀ (v : V) (fl : Addr) (fo : L2.F) (xs : List V) (z0 z1 z2 z4 z5 z7 z8 : Option V) (H2 : Hp) (N : St → Hp → Prop) (Q : VK), partR H2 0 fo v → DocX fo → H2 fl = some (.lst xs) → mksR H2 (marksD fo) xs → (∀ H', Q (.bl true) H') →
        t { nx := N, rt := Q } [z0, z1, z2, some v, z4, z5, some (.ref fl), z7, z8] H2 := by
  obtain ⟨t6, h6, r6⟩ := H6
  obtain ⟨t8, h8, r8⟩ := H8
  refine ⟨_, pss_glue e h6 h7 h8, fun v fl fo xs z0 z1 z2 z4 z5 z7 z8 H2 N Q hv hX hfl hms q => ?_⟩
  refine r6 _ _ fl xs _ rfl hfl fun l1 hl1 => ?_
  have g1 := same_new hl1 (.lst xs)
  have e1' : upd H2 l1 (.lst xs) l1 = some (.lst xs) := upd_same
  generalize upd H2 l1 (.lst xs) = H3 at g1 e1'
  refine ⟨(by show 1 ≤ sizeLine; decide), fun a1 k1 => ⟨(by show 3 ≤ sizeLine; decide), fun a2 k2 => ⟨(by show 1 ≤ sizeLine; decide), fun a3 k3 => ⟨(by show 0 ≤ sizeLine; decide), fun a4 k4 => ⟨(by show 1 ≤ sizeLine; decide), fun a5 k5 => ⟨(by show 6 ≤ sizeLine; decide), fun a6 k6 => ⟨(by show 2 ≤ sizeLine; decide), fun a7 k7 => ⟨(by show 3 ≤ sizeLine; decide), fun a8 k8 => ?_⟩⟩⟩⟩⟩⟩⟩⟩
  have f1 := same_new k1 (.tup [.str "a"])
  have f2 := same_new k2 (.tup [.str "say", .int 1, .ref a1])
  have f3 := same_new k3 (.tup [.str "a"])
  have f4 := same_new k4 (.tup [])
  have f5 := same_new k5 (.tup [.str "b"])
  have f6 := same_new k6 (.tup [.str "tell", .int 2, .str "here", .ref a3, .ref a4, .ref a5])
  have f7 := same_new k7 (.tup [.ref a2, .ref a6])
  have f8 := same_new k8 (.tup [.str "part", .int 0, .ref a7])
  have q7 := f8 _ _ (show _ = some (.tup [.ref a2, .ref a6]) from upd_same)
  have q6 := (f7.trans f8) _ _ (show _ = some (.tup [.str "tell", .int 2, .str "here", .ref a3, .ref a4, .ref a5]) from upd_same)
  have q5 := ((f6.trans f7).trans f8) _ _ (show _ = some (.tup [.str "b"]) from upd_same)
  have q4 := ((f5.trans f6).trans (f7.trans f8)) _ _ (show _ = some (.tup []) from upd_same)
  have q3 := ((f4.trans f5).trans ((f6.trans f7).trans f8)) _ _ (show _ = some (.tup [.str "a"]) from upd_same)
  have q2 := ((f3.trans f4).trans ((f5.trans f6).trans (f7.trans f8))) _ _ (show _ = some (.tup [.str "say", .int 1, .ref a1]) from upd_same)
  have q1 := ((f2.trans f3).trans ((f4.trans f5).trans ((f6.trans f7).trans f8))) _ _ (show _ = some (.tup [.str "a"]) from upd_same)
  have fAll := (g1.trans f1).trans ((f2.trans f3).trans ((f4.trans f5).trans ((f6.trans f7).trans f8)))
  have fA3 := f1.trans ((f2.trans f3).trans ((f4.trans f5).trans ((f6.trans f7).trans f8)))
  exact r8 v fl l1 a8 fo xs z0 z1 z2 z4 z5 _ N Q (thR.mono (t := .part 0 fo) hv fAll.t) hX (fAll _ _ hfl) (hms.mono fAll.t) (fA3 _ _ e1')
    ⟨a8, a7, [.ref a2, .ref a6], rfl, upd_same, q7, .ref a2, [.ref a6], rfl, ⟨a2, .ref a1, rfl, q2, a1, rfl, q1⟩, .ref a6, [], rfl, ⟨a6, .ref a3, .ref a4, .ref a5, rfl, q6, ⟨a3, rfl, q3⟩, ⟨a4, [], rfl, q4, .nil⟩, ⟨a5, rfl, q5⟩⟩, rfl⟩ q
set_option maxHeartbeats 2000000 in
theorem tail6 {cdv : Value} {A : Around} {outer : List Env} {s : Shared} {H : Hp} {E : XK} {kt : Nat} {p1 : List Str} (T : Nm mg) (hr : Room kt (A.deeper (PyProof.Rows.envOfC "law" (defScope s_law) s.heap.objs.size f cdv))) (GM : Def P w K mg base CX0 kt "marks" p1 spMarks) :
    ∃ t, PSs (cxOf CX0 P w K mg base NL33 "law" (defScope s_law) f cdv A outer s H E).nox ((defBody s_law).drop 6) t ∧
      ∀ (v : V) (fl : Addr) (fo : L2.F) (xs : List V) (z0 z1 z2 z4 z5 z7 z8 : Option V) (H2 : Hp) (N : St → Hp → Prop) (Q : VK), partR H2 0 fo v → DocX fo → H2 fl = some (.lst xs) → mksR H2 (marksD fo) xs → (∀ H', Q (.bl true) H') →
        t { nx := N, rt := Q } [z0, z1, z2, some v, z4, z5, some (.ref fl), z7, z8] H2 := by
  have h6 := ps_first (P := P) (w := w) (K := K) (mg := mg) (base := base) (f := f) (cdv := cdv) (A := A) (outer := outer) (s := s) (H := H) (E := E) T
  have h8 := tail8 (P := P) (w := w) (K := K) (mg := mg) (base := base) (f := f) (cdv := cdv) (A := A) (outer := outer) (s := s) (H := H) (E := E) hr GM
  exact tail6g split6 h6 (@ps_sm P w K mg base f cdv A outer s H E) h8
end
end D
namespace D
open PySem L2
def stL (i : Nat) : Stmt := (defBody s_law).getD i (.Pass ⟨0, 0, 0, 0⟩)
theorem split0 : defBody s_law = stL 0 :: stL 1 :: stL 2 :: stL 3 :: stL 4 :: stL 5 :: (defBody s_law).drop 6 := by rfl
theorem pss_glue6 {X : Cx} {l b : List Stmt} {s0 s1 s2 s3 s4 s5 : Stmt} {t0 t1 t2 t3 t4 t5 tb : TS} (e : l = s0 :: s1 :: s2 :: s3 :: s4 :: s5 :: b) (h0 : PS X s0 t0) (h1 : PS X s1 t1) (h2 : PS X s2 t2) (h3 : PS X s3 t3) (h4 : PS X s4 t4) (h5 : PS X s5 t5) (hb : PSs X b tb) : PSs X l (tSeq t0 (tSeq t1 (tSeq t2 (tSeq t3 (tSeq t4 (tSeq t5 tb)))))) := by
  subst e
  exact pss_cons h0 (pss_cons h1 (pss_cons h2 (pss_cons h3 (pss_cons h4 (pss_cons h5 hb)))))
section
variable {P : Program} {w : World} {K : PySem.W.Frag} {mg : Str → Option Value} {base : Heap} {f : Addr} {fd : FuncData}
variable {cdv : Value} {A : Around} {outer : List Env} {s : Shared} {H : Hp} {E : XK}
set_option maxHeartbeats 2000000 in
theorem law0 {k0 : Nat} (hr : Room k0 (A.deeper (PyProof.Rows.envOfC "law" (defScope s_law) s.heap.objs.size f cdv))) (h0 : 1 ≤ k0) (GC : Def P w K mg base CX0 1 "_law_cell" ["_law_script", "_law_k"] (spCell K)) : ∃ t, PS (cxOf CX0 P w K mg base NL33 "law" (defScope s_law) f cdv A outer s H E).nox (stL 0) t ∧
    ∀ (a : Addr) (ns : List Int) (H1 : Hp) (D : Ends) (z1 z2 z3 z4 z5 z6 z7 z8 : Option V), SqL K H1 a (ns.map V.int) → ns.length ≤ 63 → (∀ fr : Bool, D.nx [some (.ref a), some (.bl fr), z2, z3, z4, z5, z6, z7, z8] H1) → t D [some (.ref a), z1, z2, z3, z4, z5, z6, z7, z8] H1 := by
  refine ⟨_, ps_set (i := 1) scLaw.nd rfl (Or.inl rfl) (pe_cmpR op_eq (pe_op op_mod (pe_op op_fdiv (pe_def GC (hr.mono (by omega)) (pa_cons (pv 0) (pa_cons pe_int pa_nil))) pe_int) pe_int) pe_int (nomark _)), fun a ns H1 D z1 z2 z3 z4 z5 z6 z7 z8 hS h63 q => ?_⟩
  refine ⟨_, rfl, a, ns, 1, rfl, hS, h63, by decide, by decide, _, _, rfl, rfl, ⟨by decide, by decide⟩, _, _, rfl, rfl, (by show (0 : Int) < _; decide), rfl, ?_⟩
  exact q _
set_option maxHeartbeats 2000000 in
theorem law1 {k0 : Nat} (hr : Room k0 (A.deeper (PyProof.Rows.envOfC "law" (defScope s_law) s.heap.objs.size f cdv))) (h0 : 2 ≤ k0) (GM : Def P w K mg base CX0 2 "_law_menu" ["_law_script", "_law_free"] (spMenuF K)) : ∃ t, PS (cxOf CX0 P w K mg base NL33 "law" (defScope s_law) f cdv A outer s H E).nox (stL 1) t ∧
    ∀ (a : Addr) (ns : List Int) (fr : Bool) (H1 : Hp) (D : Ends) (z2 z3 z4 z5 z6 z7 z8 : Option V), SqL K H1 a (ns.map V.int) → ns.length ≤ 63 → (∀ (ws : List Str) (me : Addr) H2, Same H1 H2 → H2 me = some (.lst (ws.map V.str)) → MnOk ws → D.nx [some (.ref a), some (.bl fr), some (.ref me), z3, z4, z5, z6, z7, z8] H2) → t D [some (.ref a), some (.bl fr), z2, z3, z4, z5, z6, z7, z8] H1 := by
  refine ⟨_, ps_set (i := 2) scLaw.nd rfl (Or.inl rfl) (pe_def GM (hr.mono (by omega)) (pa_cons (pv 0) (pa_cons (pv 1) pa_nil))), fun a ns fr H1 D z2 z3 z4 z5 z6 z7 z8 hS h63 q => ?_⟩
  exact ⟨_, rfl, _, rfl, a, ns, fr, rfl, hS, h63, fun ws me H2 g2 hme _ l3 l6 hwd hnd => q ws me H2 g2 hme ⟨hnd, hwd, l3, l6⟩⟩
set_option maxHeartbeats 2000000 in
theorem law2 {k0 : Nat} (hr : Room k0 (A.deeper (PyProof.Rows.envOfC "law" (defScope s_law) s.heap.objs.size f cdv))) (h0 : 3 ≤ k0) (GC : Def P w K mg base CX0 1 "_law_cell" ["_law_script", "_law_k"] (spCell K)) (GD : Def P w K mg base CX0 3 "_law_doc" ["_law_script", "_law_menu_here", "_law_most", "_law_free"] (spDocF K)) : ∃ t, PS (cxOf CX0 P w K mg base NL33 "law" (defScope s_law) f cdv A outer s H E).nox (stL 2) t ∧
    ∀ (a : Addr) (ns : List Int) (fr : Bool) (ws : List Str) (me : Addr) (H1 : Hp) (D : Ends) (z3 z4 z5 z6 z7 z8 : Option V), SqL K H1 a (ns.map V.int) → ns.length ≤ 63 → H1 me = some (.lst (ws.map V.str)) → MnOk ws → (∀ fo v m H2, Same H1 H2 → partR H2 0 fo v → DocA ns ws fo m → m ≤ 24 → D.nx [some (.ref a), some (.bl fr), some (.ref me), some v, z4, z5, z6, z7, z8] H2) → t D [some (.ref a), some (.bl fr), some (.ref me), z3, z4, z5, z6, z7, z8] H1 := by
  refine ⟨_, ps_set (i := 3) scLaw.nd rfl (Or.inl rfl) (pe_def GD (hr.mono (by omega)) (pa_cons (pv 0) (pa_cons (pv 2) (pa_cons (pe_ix ix_list (pe_lst (pa_cons pe_int (pa_cons pe_int (pa_cons pe_int (pa_cons pe_int pa_nil))))) (pe_op op_mod (pe_op op_fdiv (pe_def GC (hr.mono (by omega)) (pa_cons (pv 0) (pa_cons pe_int pa_nil))) pe_int) pe_int) (fun _ _ => rfl)) (pa_cons (pv 1) pa_nil))))), fun a ns fr ws me H1 D z3 z4 z5 z6 z7 z8 hS h63 hme hmn q => ?_⟩
  obtain ⟨sz, hsz, esz⟩ := at_int (is := [12, 24, 12, 12]) (k := cellZ ns 3 / 12 % 4) (Int.emod_nonneg _ (by decide)) (Int.emod_lt_of_pos _ (by decide))
  have s14 : 12 ≤ sz ∧ sz ≤ 24 := by
    simp only [List.mem_cons, List.not_mem_nil, or_false] at hsz
    omega
  refine ⟨_, rfl, _, rfl, (by show 4 ≤ sizeLine; decide), fun p2 hp2 => ?_⟩
  have g2 := same_new hp2 (.lst [.int 12, .int 24, .int 12, .int 12])
  refine ⟨_, rfl, a, ns, 3, rfl, g2.seq hS, h63, by decide, by decide, _, _, rfl, rfl, ⟨by decide, by decide⟩, _, _, rfl, rfl, (by show (0 : Int) < _; decide), p2, _, _, _, rfl, rfl, SqL.of upd_same, esz, ?_⟩
  generalize upd H1 p2 (.lst [.int 12, .int 24, .int 12, .int 12]) = H2 at g2
  refine ⟨_, rfl, a, me, ns, ws, sz, fr, rfl, g2.seq hS, h63, g2 _ _ hme, hmn, by omega, by omega, fun fo v H3 g3 hv hd => ?_⟩
  exact q fo v _ H3 (g2.trans g3) hv hd (by omega)
set_option maxHeartbeats 4000000 in
theorem law3 {k0 : Nat} (hr : Room k0 (A.deeper (PyProof.Rows.envOfC "law" (defScope s_law) s.heap.objs.size f cdv))) (h0 : 3 ≤ k0) (GC : Def P w K mg base CX0 1 "_law_cell" ["_law_script", "_law_k"] (spCell K)) (GW : Def P w K mg base CX0 1 "_law_row" ["_law_menu_here", "_law_cell_here", "_law_size", "_law_free"] (spRowF K)) : ∃ t, PS (cxOf CX0 P w K mg base NL33 "law" (defScope s_law) f cdv A outer s H E).nox (stL 3) t ∧
    ∀ (a : Addr) (ns : List Int) (fr : Bool) (ws : List Str) (me : Addr) (fo : L2.F) (v : V) (m : Nat) (H1 : Hp) (D : Ends) (z4 z5 z6 z7 z8 : Option V), SqL K H1 a (ns.map V.int) → ns.length ≤ 63 → H1 me = some (.lst (ws.map V.str)) → MnOk ws → partR H1 0 fo v → DocA ns ws fo m → m ≤ 24 → (∀ fo v H2 y4 y5, partR H2 0 fo v → DocX fo → D.nx [some (.ref a), some (.bl fr), some (.ref me), some v, y4, y5, z6, z7, z8] H2) → t D [some (.ref a), some (.bl fr), some (.ref me), some v, z4, z5, z6, z7, z8] H1 := by
  refine ⟨_, ps_if (pt_cmpR op_eq (pe_op op_mod (pe_def GC (hr.mono (by omega)) (pa_cons (pv 0) (pa_cons pe_int pa_nil))) pe_int) pe_int (nomark _))
    (pss_cons (ps_set (i := 4) scLaw.nd rfl (Or.inl rfl) (pe_op op_add (pe_op op_mul pe_int (pe_op op_add pe_int (pe_op op_mod (pe_op op_fdiv (pe_def GC (hr.mono (by omega)) (pa_cons (pv 0) (pa_cons pe_int pa_nil))) pe_int) (pe_op op_pow pe_int pe_int)))) pe_int))
    (pss_cons (ps_set (i := 5) scLaw.nd rfl (Or.inl rfl) (pe_tup (pa_cons pe_str (pa_cons (pv 4) (pa_cons (pe_def GW (hr.mono (by omega)) (pa_cons (pv 2) (pa_cons (pe_def GC (hr.mono (by omega)) (pa_cons (pv 0) (pa_cons pe_int pa_nil))) (pa_cons (pe_op op_add pe_int (pe_op op_mod (pe_def GC (hr.mono (by omega)) (pa_cons (pv 0) (pa_cons pe_int pa_nil))) pe_int)) (pa_cons (pv 1) pa_nil))))) pa_nil)))))
    (pss_one (ps_set (i := 3) scLaw.nd rfl (Or.inl rfl) (pe_tup (pa_cons pe_str (pa_cons pe_int (pa_cons (pe_op op_catX (pe_ix ix_tup (pv 3) pe_int (fun _ _ => rfl)) (pe_tup (pa_cons (pv 5) pa_nil))) pa_nil)))))))) pss_nil, fun a ns fr ws me fo v m H1 D z4 z5 z6 z7 z8 hS h63 hme hmn hv hd hm q => ?_⟩
  have hb := big
  refine ⟨_, rfl, a, ns, 60, rfl, hS, h63, by decide, by decide, _, _, rfl, rfl, (by show (0 : Int) < _; decide), rfl, _, rfl, ?_⟩
  refine ite2 (fun _ => ?_) (fun _ => ?_)
  · refine ⟨_, rfl, a, ns, 3, rfl, hS, h63, by decide, by decide, _, _, rfl, rfl, ⟨by decide, by decide⟩, _, _, rfl, rfl, ⟨by decide, by decide, by decide⟩, _, _, rfl, rfl, (by show (0 : Int) < 10 ^ (40 : Int).toNat; decide), _, _, rfl, rfl, _, _, rfl, rfl, .inl ⟨by decide, by decide⟩, _, _, rfl, rfl, ?_⟩
    refine gn_as (.int (newN ns)) rfl ?_
    have c9 : 0 ≤ cellZ ns 62 % 200 ∧ cellZ ns 62 % 200 < 200 := ⟨Int.emod_nonneg _ (by decide), Int.emod_lt_of_pos _ (by decide)⟩
    refine ⟨_, rfl, _, rfl, _, rfl, a, ns, 61, rfl, hS, h63, by decide, by decide, _, rfl, a, ns, 62, rfl, hS, h63, by decide, by decide, _, _, rfl, rfl, (by show (0 : Int) < 200; decide), _, _, rfl, rfl, _, rfl, me, _, 1 + cellZ ns 62 % 200, fr, ws, rfl, SqL.of hme, Nat.le_trans (by decide) hmn.l3, hmn.l6, by omega, by omega, fun zs rp H3 g3 e3 hzl hzm => ?_⟩
    have hz1 : 1 ≤ zs.length := by omega
    have hz9 : zs.length ≤ 200 := by omega
    refine ⟨(by show 3 ≤ sizeLine; decide), fun p4 hp4 => ?_⟩
    have g4 := same_new hp4 (.tup [.str "say", .int (newN ns), .ref rp])
    have e4 : upd H3 p4 (.tup [.str "say", .int (newN ns), .ref rp]) p4 = some (.tup [.str "say", .int (newN ns), .ref rp]) := upd_same
    generalize upd H3 p4 (.tup [.str "say", .int (newN ns), .ref rp]) = H4 at g4 e4
    have g24 := g3.trans g4
    obtain ⟨da, db, xs, rfl, k1, k2, k3⟩ := thR.mono (t := .part 0 fo) hv g24.t
    refine ⟨_, rfl, da, _, _, _, rfl, rfl, SqT.of k1, rfl, _, rfl, (by show 1 ≤ sizeLine; decide), fun p6 hp6 => ?_⟩
    have g6 := same_new hp6 (.tup [.ref p4])
    have e6 : upd H4 p6 (.tup [.ref p4]) p6 = some (.tup [.ref p4]) := upd_same
    generalize upd H4 p6 (.tup [.ref p4]) = H6 at g6 e6
    have hx := fR_iff.mp k3
    have xl := Paired.length hx
    have hl : xs.length ≤ 24 := by
      rw [← xl]
      refine Nat.le_trans ?_ (Nat.le_trans hd.few hm)
      rw [ord_flat]
      exact ths_le _
    refine ⟨db, p6, xs, [.ref p4], rfl, rfl, g6 _ _ k2, e6, by show _ + 1 ≤ _; omega, fun p7 H7 g7 e7 => ?_⟩
    refine ⟨(by show 3 ≤ sizeLine; decide), fun p8 hp8 => ?_⟩
    have g8 := same_new hp8 (.tup [.str "part", .int 0, .ref p7])
    have e8 : upd H7 p8 (.tup [.str "part", .int 0, .ref p7]) p8 = some (.tup [.str "part", .int 0, .ref p7]) := upd_same
    generalize upd H7 p8 (.tup [.str "part", .int 0, .ref p7]) = H8 at g8 e8
    have g48 := (g6.trans g7).trans g8
    have hm8 : partR H8 0 (L2.F.of (fo.ths ++ [.say (newN ns) zs])) (.ref p8) := by
      refine ⟨p8, p7, _, rfl, e8, g8 _ _ e7, fR_iff.mpr ?_⟩
      rw [ths_of]
      refine paired_app (fR_iff.mp (fR_mono g48.t k3)) (.cons ?_ .nil)
      exact ⟨p4, .ref rp, rfl, g48 _ _ e4, rp, rfl, g48 _ _ (g4 _ _ e3)⟩
    exact q _ _ _ _ _ hm8 ⟨ws, hmn, hd.more hm hz1 hz9 hzm⟩
  · exact q _ _ _ _ _ hv ⟨ws, hmn, hd.toK (by omega)⟩
set_option maxHeartbeats 2000000 in
theorem law4 {kt : Nat} {p1 : List Str} (hr : Room kt (A.deeper (PyProof.Rows.envOfC "law" (defScope s_law) s.heap.objs.size f cdv))) (GM : Def P w K mg base CX0 kt "marks" p1 spMarks) : ∃ t, PS (cxOf CX0 P w K mg base NL33 "law" (defScope s_law) f cdv A outer s H E).nox (stL 4) t ∧
    ∀ (fo : L2.F) (v : V) (H1 : Hp) (D : Ends) (z0 z1 z2 z4 z5 z6 z7 z8 : Option V), partR H1 0 fo v → DocX fo → (∀ fl xs H2, partR H2 0 fo v → H2 fl = some (.lst xs) → mksR H2 (marksD fo) xs → D.nx [z0, z1, z2, some v, z4, z5, some (.ref fl), z7, z8] H2) → t D [z0, z1, z2, some v, z4, z5, z6, z7, z8] H1 := by
  refine ⟨_, ps_set (i := 6) scLaw.nd rfl (Or.inl rfl) (pe_def GM hr (pa_cons (pv 3) pa_nil)), fun fo v H1 D z0 z1 z2 z4 z5 z6 z7 z8 hv hX q => ?_⟩
  exact ⟨_, rfl, v, fo, rfl, hv, hX, fun r xs H2 g2 _ e hm => q r xs H2 (thR.mono (t := .part 0 fo) hv g2.t) e hm⟩
set_option maxHeartbeats 2000000 in
theorem law5 {k0 : Nat} (hr : Room k0 (A.deeper (PyProof.Rows.envOfC "law" (defScope s_law) s.heap.objs.size f cdv))) (h0 : 12 ≤ k0) (GW : Def P w K mg base CX0 12 "_law_walked" ["_law_doc_here", "_law_found"] spWalked) : ∃ t, PS (cxOf CX0 P w K mg base NL33 "law" (defScope s_law) f cdv A outer s H E).nox (stL 5) t ∧
    ∀ (fo : L2.F) (v : V) (fl : Addr) (xs : List V) (H1 : Hp) (D : Ends) (z0 z1 z2 z4 z5 z7 z8 : Option V), partR H1 0 fo v → DocX fo → H1 fl = some (.lst xs) → mksR H1 (marksD fo) xs → (∀ H2, Same H1 H2 → D.nx [z0, z1, z2, some v, z4, z5, some (.ref fl), z7, z8] H2) → t D [z0, z1, z2, some v, z4, z5, some (.ref fl), z7, z8] H1 := by
  refine ⟨_, ps_if (pt_not (pt_val (pe_def GW (hr.mono (by omega)) (pa_cons (pv 3) (pa_cons (pv 6) pa_nil))))) (pss_one (ps_ret pe_bl)) pss_nil, fun fo v fl xs H1 D z0 z1 z2 z4 z5 z7 z8 hv hX hfl hms q => ?_⟩
  exact ⟨_, rfl, _, rfl, v, fl, fo, xs, rfl, hv, hX, hfl, hms, fun H2 g2 => ⟨_, rfl, iteF (q H2 g2)⟩⟩
set_option maxHeartbeats 2000000 in
theorem ok_law {k0 kt : Nat} {p1 : List Str} (F : Fun K "law" "law" s_law f fd) (T : Nm mg) (h12 : 12 ≤ kt) (e0 : k0 = kt + 1) (GC : Def P w K mg base CX0 1 "_law_cell" ["_law_script", "_law_k"] (spCell K)) (GM : Def P w K mg base CX0 2 "_law_menu" ["_law_script", "_law_free"] (spMenuF K)) (GD : Def P w K mg base CX0 3 "_law_doc" ["_law_script", "_law_menu_here", "_law_most", "_law_free"] (spDocF K)) (GR : Def P w K mg base CX0 1 "_law_row" ["_law_menu_here", "_law_cell_here", "_law_size", "_law_free"] (spRowF K)) (GW : Def P w K mg base CX0 12 "_law_walked" ["_law_doc_here", "_law_found"] spWalked) (GK : Def P w K mg base CX0 kt "marks" p1 spMarks) : FnOk P w K mg base CX0 k0 f fd ["_law_script"] (spLaw K) := by
  subst e0
  refine F.ok scLaw (fun vs H Q E h => ?_) (fun cdv A outer s H vs Q E hr h => ?_)
  · obtain ⟨a, ns, rfl, _⟩ := h
    rfl
  obtain ⟨a, ns, rfl, hS, h63, q⟩ := h
  obtain ⟨t0, p0, r0⟩ := law0 (outer := outer) (H := H) (E := E) hr (by omega) GC
  obtain ⟨t1, p1, r1⟩ := law1 (outer := outer) (H := H) (E := E) hr (by omega) GM
  obtain ⟨t2, p2, r2⟩ := law2 (outer := outer) (H := H) (E := E) hr (by omega) GC GD
  obtain ⟨t3, p3, r3⟩ := law3 (outer := outer) (H := H) (E := E) hr (by omega) GC GR
  obtain ⟨t4, p4, r4⟩ := law4 (outer := outer) (H := H) (E := E) hr GK
  obtain ⟨t5, p5, r5⟩ := law5 (outer := outer) (H := H) (E := E) hr (by omega) GW
  obtain ⟨t6, p6, r6⟩ := tail6 (outer := outer) (H := H) (E := E) T hr GK
  refine ⟨_, pss_glue6 split0 p0 p1 p2 p3 p4 p5 p6, ?_⟩
  refine r0 a ns _ _ _ _ _ _ _ _ _ _ hS h63 fun fr => ?_
  refine r1 a ns fr _ _ _ _ _ _ _ _ _ hS h63 fun ws me H1 g1 hme hmn => ?_
  refine r2 a ns fr ws me _ _ _ _ _ _ _ _ (g1.seq hS) h63 hme hmn fun fo v m H2 g2 hv hd hm => ?_
  refine r3 a ns fr ws me fo v m _ _ _ _ _ _ _ ((g1.trans g2).seq hS) h63 (g2 _ _ hme) hmn hv hd hm fun fo v H3 y4 y5 hv hX => ?_
  refine r4 fo v _ _ _ _ _ _ _ _ _ _ hv hX fun fl xs H4 hv hfl hms => ?_
  refine r5 fo v fl xs _ _ _ _ _ _ _ _ _ hv hX hfl hms fun H5 g5 => ?_
  exact r6 v fl fo xs _ _ _ _ _ _ _ H5 _ _ (thR.mono (t := .part 0 fo) hv g5.t) hX (g5 _ _ hfl) (hms.mono g5.t) q
end
end D
namespace D
open PySem L2
structure DocQ (ns : List Int) (ws : List Str) (f : L2.F) (m : Nat) : Prop where
  dep : f.dep ≤ 8
  nd : (f.ord.map Th.num).Nodup
  few : f.ord.length ≤ 25
  ok : ∀ t ∈ f.ord, ThOk ws t
  pos : ∀ t ∈ f.ord, 0 < t.num
theorem DocQ.tls {ns : List Int} {ws : List Str} {f : L2.F} (h : DocQ ns ws f 12) : TlsOk (tlsF f [0]) :=
  ⟨Nat.le_trans (tls_len f [0]) h.few, fun t ht => (tls_ok h.ok (by have := h.dep; show 1 + f.dep ≤ 1000; omega) t ht).1⟩
end D
namespace D
open PySem L2
section
variable {P : Program} {w : World} {K : PySem.W.Frag} {mg : Str → Option Value} {base : Heap} {f : Addr} {fd : FuncData}
end
end D
namespace D
open PySem L2
section
variable {P : Program} {w : World} {K : PySem.W.Frag} {mg : Str → Option Value} {base : Heap} {f : Addr} {fd : FuncData}
end
end D
namespace D
open PySem L2
section
variable {α : Type}
variable {R : Hp → α → V → Prop} {H H' : Hp}
end
section
variable {P : Program} {w : World} {K : PySem.W.Frag} {mg : Str → Option Value} {base : Heap} {f : Addr} {fd : FuncData}
end
end D
namespace D
open PySem L2
end D
namespace D
open PySem L2
section
variable {P : Program} {w : World} {K : PySem.W.Frag} {mg : Str → Option Value} {base : Heap} {f : Addr} {fd : FuncData}
end
end D
namespace D
open PySem L2
structure Alike (T U : Tab (List Int)) : Prop where
  nt : (keysA T).Nodup
  nu : (keysA U).Nodup
  same : ∀ k, lookA T k = lookA U k
theorem Alike.len {T U : Tab (List Int)} (h : Alike T U) : T.length = U.length := by
  have p : (keysA T).Perm (keysA U) := by
    refine (List.perm_ext_iff_of_nodup h.nt h.nu).mpr fun k => ?_
    rw [keys_look, keys_look, h.same]
  have := p.length_eq
  unfold keysA at this
  rw [List.length_map, List.length_map] at this
  exact this
section
variable {P : Program} {w : World} {K : PySem.W.Frag} {mg : Str → Option Value} {base : Heap} {f : Addr} {fd : FuncData}
end
end D
namespace D
open PySem L2
end D
namespace D
open PySem L2
def spStrA : Sp := fun vs H Q _ => ∃ (sc : Str) (a b : Addr) (ts ps : List Int), vs = [.str sc, .ref a, .ref b] ∧ sc ∈ scopes4 ∧ iT H a ts ∧ iT H b ps ∧ ts.length ≤ 1000 ∧ ps.length ≤ 1000 ∧ ∀ H', Same H H' → Q (.int (forceD sc ts ps)) H'
structure NmS (mg : Str → Option Value) : Prop where
  e : ∃ t, mg "STRENGTH_ELSE" = some (.int 0 t)
  a : ∃ t, mg "STRENGTH_ALL" = some (.int 1 t)
  h : ∃ t, mg "STRENGTH_HERE" = some (.int 100 t)
  n : ∃ t, mg "GOVERNS_NOT" = some (.int (-1) t)
section
variable {P : Program} {w : World} {K : PySem.W.Frag} {mg : Str → Option Value} {base : Heap} {f : Addr} {fd : FuncData}
theorem scStr : FnScope ["scope", "told", "place"] ["scope", "told", "place"] (defScope s_strength) := ⟨rfl, rfl, rfl, by decide +kernel, rfl, by decide +kernel, by decide +kernel⟩
set_option maxHeartbeats 4000000 in
theorem ok_str (F : Fun K "strength" "strength" s_strength f fd) (ml : mg "len" = none) (T : NmS mg) : FnOk P w K mg base CX0 1 f fd ["scope", "told", "place"] spStrA := by
  obtain ⟨t1, he⟩ := T.e
  obtain ⟨t2, ha⟩ := T.a
  obtain ⟨t3, hh⟩ := T.h
  obtain ⟨t4, hn⟩ := T.n
  refine F.ok scStr (fun vs H Q E h => ?_) (fun cdv A outer s H vs Q E hr h => ?_)
  · obtain ⟨sc, a, b, ts, ps, rfl, _⟩ := h
    rfl
  obtain ⟨sc, a, b, ts, ps, rfl, hsc, hA, hB, k9, p9, q⟩ := h
  refine ⟨_, pss_cons (ps_if (pt_cmpR op_eq (pv 0) pe_str (nomark _)) (pss_one (ps_ret (pe_glob (v := .int 0) rfl he ⟨_, rfl⟩))) pss_nil)
    (pss_cons (ps_if (pt_cmpR op_eq (pv 0) pe_str (nomark _)) (pss_one (ps_ret (pe_glob (v := .int 1) rfl ha ⟨_, rfl⟩))) pss_nil)
    (pss_cons (ps_if (pt_cmpR op_eq (pv 0) pe_str (nomark _)) (pss_one (ps_ret (pe_ifExp (pt_cmpR (op_eqTup eqok_int hr.units0) (pv 2) (pv 1) (nomark _)) (pe_glob (v := .int 100) rfl hh ⟨_, rfl⟩) (pe_glob (v := .int (-1)) rfl hn ⟨_, rfl⟩)))) pss_nil)
    (pss_cons (ps_if (pt_cmpR (op_eqTup eqok_int hr.units0) (pe_slice sl_tupX (pv 2) po_none (po_some (pe_callB call_len_seq rfl ml PySem.boot_len (pa_cons (pv 1) pa_nil)))) (pv 1) (nomark _)) (pss_one (ps_ret (pe_op op_add (pe_callB call_len_seq rfl ml PySem.boot_len (pa_cons (pv 1) pa_nil)) pe_int))) pss_nil)
    (pss_one (ps_ret (pe_glob (v := .int (-1)) rfl hn ⟨_, rfl⟩)))))), ?_⟩
  have el : ((ts.map V.int).length : Int) = (ts.length : Int) := by rw [List.length_map]
  refine ⟨_, rfl, rfl, _, rfl, ?_⟩
  refine ite2 (fun d => ?_) (fun d1 => ?_)
  · have d' : sc = "else" := V.str.inj (of_decide_eq_true d)
    have e : forceD sc ts ps = 0 := by rw [d']; unfold forceD; rw [if_neg (fun z => absurd z.1 (by decide)), if_neg (fun z => absurd z.1 (by decide)), if_neg (by decide), if_pos rfl]
    rw [e] at q
    exact q H (Same.refl H)
  have n1 : ¬ sc = "else" := fun z => d1 (decide_eq_true (congrArg V.str z))
  refine ⟨_, rfl, rfl, _, rfl, ?_⟩
  refine ite2 (fun d => ?_) (fun d2 => ?_)
  · have d' : sc = "all" := V.str.inj (of_decide_eq_true d)
    have e : forceD sc ts ps = 1 := by rw [d']; unfold forceD; rw [if_neg (fun z => absurd z.1 (by decide)), if_neg (fun z => absurd z.1 (by decide)), if_pos rfl]
    rw [e] at q
    exact q H (Same.refl H)
  have n2 : ¬ sc = "all" := fun z => d2 (decide_eq_true (congrArg V.str z))
  have eZ : forceD sc ts ps = if sc = "part" ∧ ps.take ts.length = ts then 1 + (ts.length : Int) else if sc = "here" ∧ ps = ts then 100 else -1 := by unfold forceD; rw [if_neg n2, if_neg n1]
  rw [eZ] at q
  refine ⟨_, rfl, rfl, _, rfl, ?_⟩
  refine ite2 (fun d => ?_) (fun d3 => ?_)
  · have d' : sc = "here" := V.str.inj (of_decide_eq_true d)
    rw [if_neg (fun z => by rw [d'] at z; exact absurd z.1 (by decide))] at q
    refine ⟨_, rfl, _, rfl, ps, ts, tupI hB, tupI hA, _, rfl, ?_⟩
    refine ite2 (fun c => ?_) (fun c => ?_)
    · have c' : ps = ts := of_decide_eq_true c
      rw [if_pos ⟨d', c'⟩] at q
      exact q H (Same.refl H)
    · rw [if_neg (fun z => c (decide_eq_true z.2))] at q
      exact q H (Same.refl H)
  have n3 : ¬ sc = "here" := fun z => d3 (decide_eq_true (congrArg V.str z))
  have hp : sc = "part" := by
    rcases List.mem_cons.mp hsc with z | hsc
    · exact absurd z n2
    rcases List.mem_cons.mp hsc with z | hsc
    · exact z
    rcases List.mem_cons.mp hsc with z | hsc
    · exact absurd z n3
    rcases List.mem_cons.mp hsc with z | hsc
    · exact absurd z n1
    · cases hsc
  refine ⟨_, rfl, _, rfl, a, _, rfl, .inr (SqT.of hA), _, rfl, b, _, rfl, hB, fun c H1 g1 h1 => ?_⟩
  rw [el, cutV_to, ← List.map_take] at h1
  refine ⟨_, rfl, _, _, tupI (xs := ps.take ts.length) h1, tupI (show iT H1 a ts from g1 _ _ hA), _, rfl, ?_⟩
  refine ite2 (fun c => ?_) (fun c => ?_)
  · rw [if_pos ⟨hp, of_decide_eq_true c⟩] at q
    refine ⟨_, rfl, a, _, rfl, .inr (SqT.of (g1 _ _ hA)), _, _, rfl, rfl, ?_⟩
    rw [el]
    show Q (.int ((ts.length : Int) + 1)) H1
    rw [Int.add_comm]
    exact q H1 g1
  · rw [if_neg (fun z => c (decide_eq_true z.2)), if_neg (fun z => n3 z.1)] at q
    exact q H1 g1
end
end D
namespace D
open PySem L2
def isW (x : Str) : Bool := decide (1 ≤ x.length) && decide (x.length ≤ 20) && x.cps.toList.all good
theorem isW_wd {x : Str} (h : Wd x) : isW x = true := by
  unfold isW
  rw [decide_eq_true h.1, decide_eq_true h.2.1, show x.cps.toList.all good = true from h.2.2] <;> rfl
theorem good_iff (c : Nat) : decide (c ∈ W62.cps.toList) = good c := by
  by_cases h : c < 128
  · have all : ∀ c : _root_.Fin 128, decide (c.val ∈ W62.cps.toList) = good c.val := by decide +kernel
    exact all ⟨c, h⟩
  · have l : ∀ d ∈ W62.cps.toList, d < 128 := by decide +kernel
    have h1 : c ∉ W62.cps.toList := fun z => h (l c z)
    have h2 : good c = false := by
      unfold good
      rw [decide_eq_false (show ¬ c ≤ 122 by omega), decide_eq_false (show ¬ c ≤ 90 by omega), decide_eq_false (show ¬ c ≤ 57 by omega)]
      simp
    rw [decide_eq_false h1, h2]
structure Tw (K : PySem.W.Frag) (mg : Str → Option Value) : Prop where
  len : mg "len" = none
  isi : mg "isinstance" = none
  str : mg "str" = none
  all : mg "all" = none
  tuple : mg "tuple" = none
  most : ∃ t, mg "MOST_SIGNS" = some (.int 20 t)
  signs : ∃ t, mg "WORD_SIGNS" = some (.str W62 t)
  kS : PySem.W.kitOne K (.type "str") (.type "str") = some true
def spWord : Sp := fun vs H Q _ => ∃ x : Str, vs = [.str x] ∧ x.length ≤ sizeLine ∧ ∀ H', Same H H' → Q (.bl (isW x)) H'
section
variable {P : Program} {w : World} {K : PySem.W.Frag} {mg : Str → Option Value} {base : Heap} {f : Addr} {fd : FuncData}
theorem scWord : FnScope ["thing"] ["thing"] (defScope s_is_word) := ⟨rfl, rfl, rfl, by decide +kernel, rfl, by decide +kernel, by decide +kernel⟩
theorem ok_word (F : Fun K "is_word" "is_word" s_is_word f fd) (T : Tw K mg) : FnOk P w K mg base CX0 1 f fd ["thing"] spWord := by
  refine F.ok scWord (fun vs H Q E h => ?_) (fun cdv A outer s H vs Q E hr h => ?_)
  · obtain ⟨v, rfl, _⟩ := h
    rfl
  obtain ⟨x, rfl, hz, q⟩ := h
  obtain ⟨tm, hm⟩ := T.most
  obtain ⟨tw, hw⟩ := T.signs
  refine ⟨_, pss_cons (ps_if (pt_not (pt_val (pe_callB call_isi rfl T.isi PyProof.Rows.boot_isinstance (pa_cons (pv 0) (pa_cons (pe_bltn (v := .ty "str") rfl T.str PyProof.Rows.boot_str rfl) pa_nil))))) (pss_one (ps_ret pe_bl)) pss_nil)
    (pss_cons (ps_if (PW.pt (pw_or (pt_cmpR op_lt (pe_callB call_len_str rfl T.len PySem.boot_len (pa_cons (pv 0) pa_nil)) pe_int (nomark _)) (pw_or1 (pt_cmpR op_gt (pe_callB call_len_str rfl T.len PySem.boot_len (pa_cons (pv 0) pa_nil)) (pe_glob (v := .int 20) rfl hm ⟨_, rfl⟩) (nomark _))))) (pss_one (ps_ret pe_bl)) pss_nil)
    (pss_one (ps_ret (pe_callB (call_all_bools rfl) rfl T.all PyProof.Rows.boot_all (pa_cons (pe_comp ["thing"] (defScope s_is_word) rfl (by decide +kernel) (by decide +kernel) (pi_str (pv 0)) (fun _ _ _ _ _ => pts_nil)
      (fun _ _ _ _ _ => pe_cmpR op_in_str (pv 1) (pe_glob (v := .str W62) rfl hw ⟨_, rfl⟩) (by with_unfolding_all rfl))) pa_nil))))), ?_⟩
  refine ⟨_, rfl, _, _, _, _, true, rfl, rfl, .str x, T.kS, _, rfl, ?_⟩
  refine iteF ?_
  refine ⟨_, rfl, x, rfl, hz, _, _, rfl, rfl, _, rfl, ?_⟩
  refine ite2 (fun c => ?_) (fun c => ?_)
  · have c' : (x.length : Int) < 1 := of_decide_eq_true c
    refine iteT ?_
    have e : isW x = false := by
      unfold isW
      rw [decide_eq_false (show ¬ 1 ≤ x.length by omega)] <;> rfl
    rw [e] at q
    exact q H (Same.refl H)
  · have c' : ¬ (x.length : Int) < 1 := of_decide_eq_false (Bool.eq_false_iff.mpr c)
    refine ⟨_, rfl, x, rfl, hz, _, _, rfl, rfl, _, rfl, ?_⟩
    refine ite2 (fun d => ?_) (fun d => ?_)
    · have d' : (20 : Int) < (x.length : Int) := of_decide_eq_true d
      have e : isW x = false := by
        unfold isW
        rw [decide_eq_false (show ¬ x.length ≤ 20 by omega), Bool.and_false] <;> rfl
      rw [e] at q
      exact q H (Same.refl H)
    · have d' : ¬ (20 : Int) < (x.length : Int) := of_decide_eq_false (Bool.eq_false_iff.mpr d)
      have hl : (x.cps.toList.map fun c => V.bl (good c)).length = x.length := by simp [Str.length]
      refine ⟨_, rfl, x, rfl, ?_⟩
      refine comprd_by (x.cps.toList.map fun c => V.bl (good c)) (fun _ H' => H' = H) (by rw [hl]; exact hz) rfl (fun i H' hi _ => by rw [hl] at hi; exact hi) (fun H' _ => by rw [hl]; exact Nat.le_refl _) ?_ ?_ ?_
      · rintro i y H1 v' H2 hy rfl ⟨rfl, c, hc, rfl⟩
        rw [List.getElem?_map, hc] at hy
        cases hy
        refine ⟨_, rfl, one c, W62, rfl, rfl, ?_, rfl⟩
        rw [StrLaws.found_one, good_iff]
      · rintro H1 rfl p hp
        refine ⟨p, x.cps.toList.map good, rfl, ?_, ?_⟩
        · rw [upd_same, List.map_map] <;> rfl
        · have e : isW x = (x.cps.toList.map good).all id := by
            unfold isW
            rw [decide_eq_true (show 1 ≤ x.length by omega), decide_eq_true (show x.length ≤ 20 by omega), List.all_map] <;> rfl
          rw [e] at q
          exact q _ (same_new hp _)
      · rintro σ' H1 Q1 Q2 hq ⟨u, hu, i, j, e1, e2, z⟩
        exact ⟨u, hu, i, j, e1, e2, hq _ _ z⟩
end
def formW (last : Str) (b : Str × Str) : Str := ⟨((cs last).take (last.length - b.1.length) ++ cs b.2).toArray⟩
structure FOk (last : Str) (bs : List (Str × Str)) : Prop where
  len : bs.length ≤ 5
  fit : ∀ b ∈ bs, b.1.length ≤ last.length ∧ (cs last).drop (last.length - b.1.length) = cs b.1 ∧ b.2.length ≤ 20 ∧ allGood b.1 ∧ allGood b.2 ∧ 1 ≤ (formW last b).length ∧ (formW last b).length ≤ 20
  nd : (last :: bs.map (formW last)).Nodup
def spBent : Sp := fun vs H Q _ => ∃ (a b : Addr) (ws : List Str) (l : Str) (cp : Str × Str), vs = [.ref a, .ref b] ∧ H a = some (.tup ((ws ++ [l]).map V.str)) ∧ H b = some (.tup [.str cp.1, .str cp.2]) ∧ ws.length ≤ 4 ∧ Wd l ∧
  (cp.1.length ≤ l.length ∧ (cs l).drop (l.length - cp.1.length) = cs cp.1 ∧ cp.2.length ≤ 20 ∧ allGood cp.1 ∧ allGood cp.2 ∧ 1 ≤ (formW l cp).length ∧ (formW l cp).length ≤ 20) ∧ ∀ r H', Same H H' → H' r = some (.tup ((ws ++ [formW l cp]).map V.str)) → Q (.ref r) H'
def spForms : Sp := fun vs H Q _ => ∃ (a : Addr) (v : V) (ws : List Str) (l : Str) (bs : List (Str × Str)), vs = [.ref a, v] ∧ H a = some (.tup ((ws ++ [l]).map V.str)) ∧ bR H bs v ∧ ws.length ≤ 4 ∧ Wd l ∧ FOk l bs ∧ ∀ r xs H', Same H H' → H' r = some (.tup xs) → Paired (wR H') ((ws ++ [l]) :: bs.map fun c => ws ++ [formW l c]) xs → Q (.ref r) H'
theorem ends_fit {l : Str} {cp : Str × Str} (h1 : cp.1.length ≤ l.length) (h2 : (cs l).drop (l.length - cp.1.length) = cs cp.1) : endsC l cp.1 = true := by
  unfold endsC
  rw [decide_eq_true h1, decide_eq_true h2] <;> rfl
theorem formW_good {l : Str} {cp : Str × Str} (h1 : allGood l) (h2 : allGood cp.2) : allGood (formW l cp) := by
  unfold formW
  exact .mk (by rw [List.all_append, all_take h1, show (cs cp.2).all good = true from h2] <;> rfl)
theorem formW_eq {l : Str} {cp : Str × Str} {n : Int} (h0 : 0 ≤ n) (hn : n = (l.length : Int) - (cp.1.length : Int)) : (⟨(cutC l none (some n)).toArray⟩ : Str) ++ cp.2 = formW l cp := by
  refine str_ext ?_
  unfold formW
  rw [cs_app, cs_mk, cs_mk, cut_to l h0]
  congr 2
  omega
theorem paired_strM (H : Hp) : ∀ zs : List Str, Paired (strR H) zs (zs.map V.str)
  | [] => .nil
  | _ :: r => .cons rfl (paired_strM H r)
theorem wR_tup {K : PySem.W.Frag} {H : Hp} {zs : List Str} {v : V} (h : wR H zs v) : tupR K strR H zs v := let ⟨a, e, q⟩ := h; ⟨a, _, e, SqT.of q, paired_strM _ _⟩
section
variable {P : Program} {w : World} {K : PySem.W.Frag} {mg : Str → Option Value} {base : Heap} {f : Addr} {fd : FuncData}
theorem scBent : FnScope ["phrase", "bend", "last", "cut", "new_last"] ["phrase", "bend"] (defScope s_bent) := ⟨rfl, rfl, rfl, by decide +kernel, rfl, by decide +kernel, by decide +kernel⟩
set_option maxHeartbeats 4000000 in
theorem ok_bent (F : Fun K "bent" "bent" s_bent f fd) (T : Tw K mg) (GW : Def P w K mg base CX0 1 "is_word" ["thing"] spWord) : FnOk P w K mg base CX0 2 f fd ["phrase", "bend"] spBent := by
  refine F.ok scBent (fun vs H Q E h => ?_) (fun cdv A outer s H vs Q E hr h => ?_)
  · obtain ⟨a, b, ws, l, cp, rfl, _⟩ := h
    rfl
  obtain ⟨a, b, ws, l, cp, rfl, ha, hb0, nw, hl, ⟨f1, f2, f3, f4, f5, f6, f7⟩, q⟩ := h
  refine ⟨_, pss_cons (ps_set (i := 2) scBent.nd rfl (Or.inl rfl) (pe_ix ix_tup (pv 0) (pe_un un_neg pe_int) (fun _ _ => rfl)))
    (pss_cons (ps_set (i := 3) scBent.nd rfl (Or.inl rfl) (pe_ix ix_tup (pv 1) pe_int (fun _ _ => rfl)))
    (pss_cons (ps_if (pt_not (pt_val (pe_bm PySem.F.plainAttrs_str PySem.F.slot_str_endswith PySem.F.type_str_endswith mt_ends (pv 2) (pa_cons (pv 3) pa_nil)))) pss_never pss_nil)
    (pss_cons (ps_set (i := 4) scBent.nd rfl (Or.inl rfl) (pe_op op_add_str (pe_slice sl_str (pv 2) po_none (po_some (pe_op op_sub (pe_callB call_len_str rfl T.len PySem.boot_len (pa_cons (pv 2) pa_nil)) (pe_callB call_len_str rfl T.len PySem.boot_len (pa_cons (pv 3) pa_nil))))) (pe_ix ix_tup (pv 1) pe_int (fun _ _ => rfl))))
    (pss_cons (ps_if (pt_not (pt_val (pe_def GW hr (pa_cons (pv 4) pa_nil)))) pss_never pss_nil)
    (pss_one (ps_ret (pe_op (OpR.or op_catT0 op_catT) (pe_slice sl_tup (pv 0) po_none (po_some (pe_un un_neg pe_int))) (pe_tup (pa_cons (pv 4) pa_nil))))))))), ?_⟩
  have hb := big
  have l20 := hl.2.1
  have zl : l.length ≤ sizeLine := by omega
  have zc : cp.1.length ≤ sizeLine := by omega
  have em : (ws ++ [l]).map V.str = ws.map V.str ++ [.str l] := by rw [List.map_append] <;> rfl
  have ha' : SqT K H a (ws.map V.str ++ [.str l]) := SqT.of (by rw [← em]; exact ha)
  refine ⟨_, rfl, 1, rfl, a, _, _, _, rfl, rfl, ha', atI_last _ _, ?_⟩
  refine ⟨_, rfl, b, _, _, _, rfl, rfl, SqT.of hb0, rfl, ?_⟩
  refine ⟨_, rfl, rfl, _, rfl, l, cp.1, rfl, rfl, _, rfl, ?_⟩
  rw [ends_fit f1 f2]
  refine iteF ?_
  refine ⟨_, rfl, _, rfl, l, rfl, zl, _, rfl, cp.1, rfl, zc, _, _, rfl, rfl, _, rfl, l, rfl, zl, _, rfl, b, _, _, _, rfl, rfl, SqT.of hb0, rfl, _, _, rfl, rfl, ?_, ?_⟩
  · rw [len_mk, cut_to _ (by omega), List.length_take, cs_len]
    omega
  · rw [formW_eq (cp := cp) (show (0 : Int) ≤ (l.length : Int) - (cp.1.length : Int) by omega) rfl]
    have hng := formW_good (cp := cp) hl.2.2 f5
    refine ⟨_, rfl, _, rfl, by omega, fun H1 g1 => ⟨_, rfl, ?_⟩⟩
    rw [isW_wd ⟨f6, f7, hng⟩]
    refine iteF ?_
    refine snoc_rd (xs := ws.map V.str) (l := .str l) (z := .str (formW l cp)) rfl (g1.seqT ha') (by rw [List.length_map]; omega) (fun H2 g2 Q1 hq => ⟨_, rfl, hq⟩) (fun r H' g h => q r H' (g1.trans g) ?_)
    rw [h, List.map_append] <;> rfl
theorem scForms : FnScope ["phrase", "bends", "found", "bend", "form"] ["phrase", "bends"] (defScope s_forms) := ⟨rfl, rfl, rfl, by decide +kernel, rfl, by decide +kernel, by decide +kernel⟩
theorem dec_noM {p : Prop} (h : ¬ p) (i : Decidable p) : @decide p i = false := @decide_eq_false p i h
set_option maxHeartbeats 4000000 in
theorem ok_forms (F : Fun K "forms" "forms" s_forms f fd) (T : Tw K mg) (GB : Def P w K mg base CX0 2 "bent" ["phrase", "bend"] spBent) : FnOk P w K mg base CX0 3 f fd ["phrase", "bends"] spForms := by
  refine F.ok scForms (fun vs H Q E h => ?_) (fun cdv A outer s H vs Q E hr h => ?_)
  · obtain ⟨a, b, ws, l, cps, rfl, _⟩ := h
    rfl
  obtain ⟨a, v, ws, l, bs, rfl, ha, ⟨b, bxs, rfl, hbx, hbp⟩, nw, hl, hB, q⟩ := h
  have hu : (A.deeper (PyProof.Rows.envOfC "forms" (defScope s_forms) s.heap.objs.size f cdv)).in1.units < cLine := by
    have := hr.units
    show (A.deeper (PyProof.Rows.envOfC "forms" (defScope s_forms) s.heap.objs.size f cdv)).units + 1 < cLine
    omega
  refine ⟨_, pss_cons (ps_set (i := 2) scForms.nd rfl (Or.inl rfl) (pe_lst (pa_cons (pv 0) pa_nil)))
    (pss_cons (ps_for PassesOwn.never rfl (pi_tup (pv 1)) (pg_name (i := 3) scForms.nd rfl (Or.inl rfl))
      (pss_cons (ps_set (i := 4) scForms.nd rfl (Or.inl rfl) (pe_def GB hr (pa_cons (pv 0) (pa_cons (pv 3) pa_nil))))
      (pss_cons (ps_if (pt_cmpR (op_inLst (eqok_tup eqok_str hu)) (pv 4) (pv 2) (by with_unfolding_all rfl)) pss_never pss_nil)
      (pss_one (ps_expr (pe_bm PySem.F.plainAttrs_list PySem.F.slot_list_append PySem.F.type_list_append mt_append (pv 2) (pa_cons (pv 4) pa_nil)))))))
    (pss_one (ps_ret (pe_callTy call_tuple_of rfl T.tuple PyProof.Rows.boot_tuple (pa_cons (pv 2) pa_nil))))), ?_⟩
  have hb := big
  have hbl := paired_len hbp
  have hn := hB.len
  refine ⟨_, rfl, (by show 1 ≤ sizeLine; decide), fun p hp => ?_⟩
  have keep : ∀ (H' : Hp) (o : HO), Same H H' → Same H (upd H' p o) := fun H' o g => keep_upd hp g o
  have k0 := keep H (.lst [.ref a]) (Same.refl H)
  refine ⟨_, rfl, b, rfl, ⟨_, SqT.of (k0 _ _ hbx)⟩, ?_⟩
  refine for_tup (K := K) (a := b) (xs := bxs) (fun i σ' H' => Same H H' ∧ (∃ u v : Option V, σ' = [some (.ref a), some (.ref b), some (.ref p), u, v]) ∧ ∃ xs, H' p = some (.lst xs) ∧ Paired (wR H') ((ws ++ [l]) :: (bs.take i).map fun c => ws ++ [formW l c]) xs) ?_ (fun i σ' H' _ h => SqT.of (h.1 _ _ hbx)) ?_ ?_
  · exact ⟨k0, ⟨none, none, rfl⟩, _, upd_same, .cons ⟨a, rfl, k0 _ _ ha⟩ .nil⟩
  · rintro i x σ' H' hi ⟨g, ⟨u, v, rfl⟩, xs, hxs, ht⟩
    obtain ⟨cp, hcp, r, rfl, hr1⟩ := paired_get hbp hi
    have hm := List.mem_of_getElem? hcp
    refine ⟨_, rfl, _, rfl, a, r, ws, l, cp, rfl, g _ _ ha, g _ _ hr1, nw, hl, hB.fit cp hm, fun r2 H2 g2 h2 => ?_⟩
    have gA := g.trans g2
    have hx2 := g2 _ _ hxs
    have ht2 : Paired (wR H2) ((ws ++ [l]) :: (bs.take i).map fun c => ws ++ [formW l c]) xs := Paired.mapP ht fun _ _ z => z.mono g2.t
    refine ⟨_, rfl, _, rfl, ws ++ [formW l cp], _, ⟨r2, _, rfl, SqT.of h2, paired_strM _ _⟩, ⟨p, xs, rfl, SqL.of hx2, Paired.mapP ht2 fun _ _ z => wR_tup z⟩, _, rfl, ?_⟩
    have hno : ws ++ [formW l cp] ∉ (ws ++ [l]) :: (bs.take i).map fun c => ws ++ [formW l c] := by
      intro z
      have nd := hB.nd
      have hsp : bs = bs.take i ++ cp :: bs.drop (i + 1) := by
        have hil := (List.getElem?_eq_some_iff.mp hcp).1
        have e := (List.getElem?_eq_some_iff.mp hcp).2
        rw [← e, ← List.drop_eq_getElem_cons hil, List.take_append_drop]
      rw [hsp, List.map_append, List.map_cons] at nd
      have nd2 : ∀ y ∈ l :: (bs.take i).map (formW l), y ≠ formW l cp := by
        have := (List.nodup_append (l₁ := l :: (bs.take i).map (formW l)) (l₂ := formW l cp :: (bs.drop (i + 1)).map (formW l))).mp nd
        exact fun y hy => this.2.2 y hy _ List.mem_cons_self
      rcases List.mem_cons.mp z with e | e
      · have := (List.cons.inj (List.append_cancel_left e)).1
        exact nd2 l List.mem_cons_self this.symm
      · obtain ⟨c, hc, e⟩ := List.mem_map.mp e
        have := (List.cons.inj (List.append_cancel_left e)).1
        exact nd2 _ (List.mem_cons_of_mem _ (List.mem_map_of_mem hc)) this
    rw [dec_noM hno]
    refine iteF ?_
    have hlx : xs.length ≤ 6 := by
      rw [← paired_len ht, List.length_cons, List.length_map, List.length_take]
      omega
    refine ⟨_, rfl, .inl ⟨rfl, _, SqL.of hx2⟩, _, rfl, p, _, _, rfl, rfl, hx2, by omega, ?_⟩
    refine ⟨keep H2 _ gA, ⟨_, _, rfl⟩, xs ++ [.ref r2], upd_same, ?_⟩
    have tl : TSame H2 (upd H2 p (.lst (xs ++ [.ref r2]))) := TSame.lst hx2
    rw [List.take_add_one, hcp, List.map_append, ← List.cons_append]
    exact paired_snoc (Paired.mapP ht2 fun _ _ z => z.mono tl) ⟨r2, rfl, tl _ _ h2⟩
  · rintro σ' H' ⟨g, ⟨u, v, rfl⟩, xs, hxs, ht⟩
    refine ⟨_, rfl, p, _, rfl, .inl ⟨SqL.of hxs, fun r hr1 => ?_⟩⟩
    rw [← hbl, List.take_length] at ht
    exact q _ xs _ (g.trans (same_new hr1 _)) upd_same (Paired.mapP ht fun _ _ z => z.mono (same_new hr1 _).t)
end
end D
namespace D
open PySem L2
theorem knd_part (t : Th) : decide (V.str (knd t) = V.str "part") = true ↔ ∃ n i, t = .part n i := by
  cases t with
  | say n ws => exact ⟨fun z => absurd z (by show ¬ decide (V.str "say" = V.str "part") = true; decide), fun ⟨_, _, e⟩ => nomatch e⟩
  | tell n sc ph bs ms => exact ⟨fun z => absurd z (by show ¬ decide (V.str "tell" = V.str "part") = true; decide), fun ⟨_, _, e⟩ => nomatch e⟩
  | part n i => exact ⟨fun _ => ⟨n, i, rfl⟩, fun _ => decide_eq_true rfl⟩
theorem sub_leaf {t : Th} (h : ¬ ∃ n i, t = .part n i) : t.sub = .nil := by
  cases t with
  | say n ws => rfl
  | tell n sc ph bs ms => rfl
  | part n i => exact absurd ⟨n, i, rfl⟩ h
abbrev PTh := List Int × Th
def ordP : List Int → F → List PTh
  | _, .nil => []
  | p, .say n ws r => (p, .say n ws) :: ordP p r
  | p, .tell n sc ph bs ms r => (p, .tell n sc ph bs ms) :: ordP p r
  | p, .part n i r => (p, .part n i) :: (ordP (p ++ [n]) i ++ ordP p r)
def ordQ (x : PTh) : List PTh := x :: ordP (x.1 ++ [x.2.num]) x.2.sub
theorem ordP_flat : ∀ (p : List Int) (f : F), ordP p f = (f.ths.map fun t => (p, t)).flatMap ordQ
  | _, .nil => rfl
  | p, .say n ws r => by
    show (p, Th.say n ws) :: ordP p r = _
    rw [ordP_flat p r] <;> rfl
  | p, .tell n sc ph bs ms r => by
    show (p, Th.tell n sc ph bs ms) :: ordP p r = _
    rw [ordP_flat p r] <;> rfl
  | p, .part n i r => by
    show (p, Th.part n i) :: (ordP (p ++ [n]) i ++ ordP p r) = _
    rw [ordP_flat p r] <;> rfl
theorem ordP_snd : ∀ (p : List Int) (f : F), (ordP p f).map Prod.snd = f.ord
  | _, .nil => rfl
  | p, .say n ws r => by
    show Th.say n ws :: (ordP p r).map Prod.snd = Th.say n ws :: r.ord
    rw [ordP_snd p r]
  | p, .tell n sc ph bs ms r => by
    show Th.tell n sc ph bs ms :: (ordP p r).map Prod.snd = Th.tell n sc ph bs ms :: r.ord
    rw [ordP_snd p r]
  | p, .part n i r => by
    show Th.part n i :: (ordP (p ++ [n]) i ++ ordP p r).map Prod.snd = Th.part n i :: (i.ord ++ r.ord)
    rw [List.map_append, ordP_snd p r, ordP_snd _ i]
theorem ordP_len (p : List Int) (f : F) : (ordP p f).length = f.ord.length := by
  rw [← ordP_snd p f, List.length_map]
theorem ordP_plen : ∀ (p : List Int) (f : F) (x : PTh), x ∈ ordP p f → x.1.length ≤ p.length + f.dep
  | _, .nil, _, h => nomatch h
  | p, .say n ws r, x, h => by
    rcases List.mem_cons.mp h with e | e
    · subst e; exact Nat.le_add_right _ _
    · exact ordP_plen p r x e
  | p, .tell n sc ph bs ms r, x, h => by
    rcases List.mem_cons.mp h with e | e
    · subst e; exact Nat.le_add_right _ _
    · exact ordP_plen p r x e
  | p, .part n i r, x, h => by
    show _ ≤ p.length + max (i.dep + 1) r.dep
    rcases List.mem_cons.mp h with e | e
    · subst e; exact Nat.le_add_right _ _
    · rcases List.mem_append.mp e with e | e
      · have := ordP_plen (p ++ [n]) i x e
        rw [List.length_append, List.length_singleton] at this
        omega
      · have := ordP_plen p r x e
        omega
def pR (H : Hp) (x : PTh) (v : V) : Prop := ∃ q a u, v = .ref q ∧ H q = some (.tup [.ref a, u]) ∧ iT H a x.1 ∧ thR H x.2 u
theorem pR.mono {H H' : Hp} {x : PTh} {v : V} (h : pR H x v) (g : TSame H H') : pR H' x v := by
  obtain ⟨q, a, u, e, h1, h2, h3⟩ := h
  exact ⟨q, a, u, e, g _ _ h1, g _ _ h2, h3.mono g⟩
abbrev psR (H : Hp) : List PTh → List V → Prop := Paired (pR H)
theorem psR.mono {H H' : Hp} {ts : List PTh} {xs : List V} (h : psR H ts xs) (g : TSame H H') : psR H' ts xs := Paired.mapP h fun _ _ z => z.mono g
theorem map_take_ths {f : F} {p : List Int} {i : Nat} {t : Th} (h : f.ths[i]? = some t) : ((f.ths.take (i + 1)).map fun t => (p, t)) = ((f.ths.take i).map fun t => (p, t)) ++ [(p, t)] := by
  rw [List.take_add_one, h, List.map_append] <;> rfl
def qR (H : Hp) (x : PTh) (v : V) : Prop := ∃ q a u, v = .ref q ∧ H q = some (.tup [u, .ref a]) ∧ iT H a x.1 ∧ thR H x.2 u
theorem qR.mono {H H' : Hp} {x : PTh} {v : V} (h : qR H x v) (g : TSame H H') : qR H' x v := by
  obtain ⟨q, a, u, e, h1, h2, h3⟩ := h
  exact ⟨q, a, u, e, g _ _ h1, g _ _ h2, h3.mono g⟩
abbrev qsR (H : Hp) : List PTh → List V → Prop := Paired (qR H)
theorem qsR.mono {H H' : Hp} {ts : List PTh} {xs : List V} (h : qsR H ts xs) (g : TSame H H') : qsR H' ts xs := Paired.mapP h fun _ _ z => z.mono g
def spTwh (d : Nat) : Sp := fun vs H Q _ => ∃ (v : V) (n : Int) (f : F) (a : Addr) (p : List Int), vs = [v, .ref a] ∧ partR H n f v ∧ iT H a p ∧ f.dep < d ∧ f.ord.length ≤ 1000 ∧ p.length + f.dep ≤ 1000 ∧
  ∀ r xs H', Same H H' → H r = none → H' r = some (.lst xs) → qsR H' (ordP p f) xs → Q (.ref r) H'
theorem sub_of_mem {t : Th} : ∀ {f : F}, t ∈ f.ths → t.sub.dep + 1 ≤ f.dep ∨ ¬ ∃ n i, t = .part n i
  | .say n ws r, h => by
    rcases List.mem_cons.mp h with e | e
    · exact .inr (fun ⟨_, _, z⟩ => by rw [e] at z; cases z)
    · exact sub_of_mem (f := r) e
  | .tell n sc ph bs ms r, h => by
    rcases List.mem_cons.mp h with e | e
    · exact .inr (fun ⟨_, _, z⟩ => by rw [e] at z; cases z)
    · exact sub_of_mem (f := r) e
  | .part n i r, h => by
    rcases List.mem_cons.mp h with e | e
    · subst e
      exact .inl (by show i.dep + 1 ≤ max (i.dep + 1) r.dep; omega)
    · rcases sub_of_mem (f := r) e with z | z
      · exact .inl (by show _ ≤ max (i.dep + 1) r.dep; omega)
      · exact .inr z
theorem take_ordQ {f : F} {p : List Int} {i : Nat} {t : Th} (h : f.ths[i]? = some t) : ((f.ths.take (i + 1)).map fun t => (p, t)).flatMap ordQ = ((f.ths.take i).map fun t => (p, t)).flatMap ordQ ++ ((p, t) :: ordP (p ++ [t.num]) t.sub) := by
  rw [map_take_ths h, List.flatMap_append]
  congr 1
  show ordQ (p, t) ++ [] = _
  rw [List.append_nil] <;> rfl
theorem take_le {f : F} {p : List Int} (i : Nat) : (((f.ths.take i).map fun t => (p, t)).flatMap ordQ).length ≤ f.ord.length := by
  rw [← ordP_len p f, ordP_flat]
  conv => rhs; rw [← List.take_append_drop i f.ths, List.map_append, List.flatMap_append, List.length_append]
  omega
section
variable {P : Program} {w : World} {K : PySem.W.Frag} {mg : Str → Option Value} {base : Heap} {f : Addr} {fd : FuncData}
theorem scTwh : FnScope ["part", "path", "found", "thing"] ["part", "path"] (defScope s_things_with_homes) := ⟨rfl, rfl, rfl, by decide +kernel, rfl, by decide +kernel, by decide +kernel⟩
set_option maxHeartbeats 4000000 in
theorem twh_step {d : Nat} (F : Fun K "things_with_homes" "things_with_homes" s_things_with_homes f fd) (G : Def P w K mg base CX0 d "things_with_homes" ["part", "path"] (spTwh d)) : FnOk P w K mg base CX0 (d + 1) f fd ["part", "path"] (spTwh (d + 1)) := by
  refine F.ok scTwh (fun vs H Q E h => ?_) (fun cdv A outer s H vs Q E hr h => ?_)
  · obtain ⟨v, n, fo, a, p, rfl, _⟩ := h
    rfl
  obtain ⟨v, n, fo, a, p, rfl, hv, ha, hd, hlen, hpl, q⟩ := h
  refine ⟨_, pss_cons (ps_set (i := 2) scTwh.nd rfl (Or.inl rfl) (pe_lst pa_nil))
    (pss_cons (ps_for PassesOwn.never rfl (pi_tup (pe_ix ix_tup (pv 0) pe_int (fun _ _ => rfl))) (pg_name (i := 3) scTwh.nd rfl (Or.inl rfl))
      (pss_cons (ps_expr (pe_bm PySem.F.plainAttrs_list PySem.F.slot_list_append PySem.F.type_list_append mt_append (pv 2) (pa_cons (pe_tup (pa_cons (pv 3) (pa_cons (pv 1) pa_nil))) pa_nil)))
      (pss_one (ps_if (pt_cmpR op_eq (pe_ix ix_tup (pv 3) pe_int (fun _ _ => rfl)) pe_str (nomark _))
        (pss_one (ps_expr (pe_bm PySem.F.plainAttrs_list PySem.F.slot_list_extend PySem.F.type_list_extend mt_extend (pv 2) (pa_cons (pe_def G hr (pa_cons (pv 3) (pa_cons (pe_op op_catX (pv 1) (pe_tup (pa_cons (pe_ix ix_tup (pv 3) pe_int (fun _ _ => rfl)) pa_nil))) pa_nil))) pa_nil)))) pss_nil))))
    (pss_one (ps_ret (pv 2)))), ?_⟩
  have hb := big
  obtain ⟨da, db, zs0, rfl, h1, h2, h3⟩ := hv
  have hths := fR_iff.mp h3
  refine ⟨(by show 0 ≤ sizeLine; decide), fun l hl => ?_⟩
  have g1 := same_new hl (.lst [])
  have e1 : upd H l (.lst []) l = some (.lst []) := upd_same
  generalize upd H l (.lst []) = H1 at g1 e1 ⊢
  refine ⟨_, rfl, da, _, _, _, rfl, rfl, SqT.of (g1 _ _ h1), rfl, db, rfl, ⟨_, SqT.of (g1 _ _ h2)⟩, ?_⟩
  refine for_tup (K := K) (a := db) (xs := zs0) (fun i σ' H' => ∃ (zs : List V) (u : Option V), σ' = [some (.ref da), some (.ref a), some (.ref l), u] ∧ Same H H' ∧ H' l = some (.lst zs) ∧ qsR H' (((fo.ths.take i).map fun t => (p, t)).flatMap ordQ) zs) ?_ (fun i σ' H' _ h => by obtain ⟨zs, u, _, g, _⟩ := h; exact SqT.of (g _ _ h2)) ?_ ?_
  · exact ⟨[], none, rfl, g1, e1, .nil⟩
  · rintro i v σ' H' hi ⟨zs, u, rfl, g, hl', hzs⟩
    obtain ⟨th, hth, hv⟩ := paired_get hths hi
    have hv' := hv.mono g.t
    have hsz : zs.length ≤ 1000 := by
      rw [← paired_len hzs]
      exact Nat.le_trans (take_le i) hlen
    refine ⟨_, rfl, .inl ⟨rfl, _, SqL.of hl'⟩, _, rfl, _, rfl, (by show 2 ≤ sizeLine; decide), fun t1 ht1 => ?_⟩
    have k1 := same_new ht1 (.tup [v, .ref a])
    have l1 : upd H' t1 (.tup [v, .ref a]) l = some (.lst zs) := k1 _ _ hl'
    have x1 : qR (upd H' t1 (.tup [v, .ref a])) (p, th) (.ref t1) := ⟨t1, a, v, rfl, upd_same, k1 _ _ (g _ _ ha), hv'.mono k1.t⟩
    generalize upd H' t1 (.tup [v, .ref a]) = H2 at k1 l1 x1 ⊢
    refine ⟨l, _, _, rfl, rfl, l1, by omega, ?_⟩
    have k2 : TSame H2 (upd H2 l (.lst (zs ++ [.ref t1]))) := TSame.lst l1
    have kk : Same H (upd H2 l (.lst (zs ++ [.ref t1]))) := keep_upd hl (g.trans k1) _
    have e2 : upd H2 l (.lst (zs ++ [.ref t1])) l = some (.lst (zs ++ [.ref t1])) := upd_same
    have z2 : qsR (upd H2 l (.lst (zs ++ [.ref t1]))) (((fo.ths.take i).map fun t => (p, t)).flatMap ordQ ++ [(p, th)]) (zs ++ [.ref t1]) := paired_app ((hzs.mono k1.t).mono k2) (.cons (x1.mono k2) .nil)
    have v2 := (hv'.mono k1.t).mono k2
    generalize upd H2 l (.lst (zs ++ [.ref t1])) = H3 at k2 kk e2 z2 v2 ⊢
    obtain ⟨va, vx, rfl, hva, hk0, _⟩ := thR_head v2
    refine ⟨_, rfl, va, _, _, _, rfl, rfl, SqT.of hva, hk0, rfl, _, rfl, ?_⟩
    refine ite2 (fun dd => ?_) (fun dd => ?_)
    · obtain ⟨pn, k, rfl⟩ := (knd_part th).mp dd
      obtain ⟨pa, pb, pz, ea, w1, w2, w3⟩ := v2
      cases ea
      have hdk : k.dep + 1 ≤ fo.dep := by
        rcases sub_of_mem (f := fo) (List.mem_of_getElem? hth) with z | z
        · exact z
        · exact absurd ⟨pn, k, rfl⟩ z
      have hkl : (((fo.ths.take i).map fun t => (p, t)).flatMap ordQ).length + (k.ord.length + 1) ≤ 1000 := by
        have z := take_le (f := fo) (p := p) (i + 1)
        rw [take_ordQ hth, List.length_append, List.length_cons, ordP_len] at z
        exact Nat.le_trans z hlen
      refine ⟨_, rfl, .inl ⟨rfl, _, SqL.of e2⟩, _, rfl, _, rfl, _, rfl, va, _, _, _, rfl, rfl, SqT.of w1, rfl, (by show 1 ≤ sizeLine; decide), fun t2 ht2 => ?_⟩
      have k3 := same_new ht2 (.tup [.int pn])
      have e3 : upd H3 t2 (.tup [.int pn]) t2 = some (.tup [.int pn]) := upd_same
      generalize upd H3 t2 (.tup [.int pn]) = H4 at k3 e3 ⊢
      refine ⟨a, t2, _, _, rfl, rfl, k3 _ _ (kk _ _ ha), e3, by rw [List.length_map, List.length_singleton]; omega, fun t3 H5 g5 h5 => ?_⟩
      have h5' : iT H5 t3 (p ++ [pn]) := by
        show H5 t3 = _
        rw [List.map_append]
        exact h5
      have k5 := k3.trans g5
      refine ⟨.ref va, pn, k, t3, p ++ [pn], rfl, ⟨va, pb, pz, rfl, k5 _ _ w1, k5 _ _ w2, fR_mono k5.t w3⟩, h5', by omega, by omega, by rw [List.length_append, List.length_singleton]; omega, fun r xs H6 g6 fr er hxs => ?_⟩
      have k6 := k5.trans g6
      have e6 := k6 _ _ e2
      have hxl : xs.length = k.ord.length := by rw [← paired_len hxs, ordP_len]
      refine ⟨l, r, _, _, rfl, rfl, e6, er, by rw [List.length_append, List.length_singleton]; omega, ?_⟩
      have k7 : TSame H6 (upd H6 l (.lst (zs ++ [.ref t1] ++ xs))) := TSame.lst e6
      refine ⟨zs ++ [.ref t1] ++ xs, _, rfl, keep_upd hl (kk.trans k6) _, upd_same, ?_⟩
      rw [take_ordQ hth]
      have e8 : ((p, Th.part pn k) :: ordP (p ++ [(Th.part pn k).num]) (Th.part pn k).sub) = [(p, Th.part pn k)] ++ ordP (p ++ [pn]) k := rfl
      rw [e8, ← List.append_assoc]
      exact paired_app ((z2.mono k6.t).mono k7) (hxs.mono k7)
    · refine ⟨_, _, rfl, kk, e2, ?_⟩
      rw [take_ordQ hth, sub_leaf (fun z => dd ((knd_part th).mpr z))]
      exact z2
  · rintro σ' H' ⟨zs, u, rfl, g, hl', hzs⟩
    have el : zs0.length = fo.ths.length := (paired_len hths).symm
    rw [el, List.take_length, ← ordP_flat] at hzs
    exact ⟨_, rfl, q l zs H' g hl hl' hzs⟩
theorem ok_twh (F : Fun K "things_with_homes" "things_with_homes" s_things_with_homes f fd) (b : Binds K fd ["part", "path"] []) (kp : PySem.W.keepIn K (.ref f) = true) (hm : mg "things_with_homes" = some (.ref f)) : ∀ d, FnOk P w K mg base CX0 d f fd ["part", "path"] (spTwh d)
  | 0 => fnok_false fun vs H Q E ⟨v, n, fo, a, p, _, _, _, hd, _⟩ => absurd hd (Nat.not_lt_zero _)
  | d + 1 => twh_step F (Def.mk' (ok_twh F b kp hm d) b kp hm)
end
structure Tree (f : F) : Prop where
  dep : f.dep ≤ 10
  len : f.ord.length ≤ 200
  nd : (f.ord.map Th.num).Nodup
  pos : ∀ t ∈ f.ord, 1 ≤ t.num
theorem mem_ord {f : F} {p : List Int} {x : PTh} (h : x ∈ ordP p f) : x.2 ∈ f.ord := by
  rw [← ordP_snd p f]
  exact List.mem_map_of_mem h
section
variable {P : Program} {w : World} {K : PySem.W.Frag} {mg : Str → Option Value} {base : Heap} {f : Addr} {fd : FuncData} {CT : Addr}
end
end D
namespace D
open PySem L2
def mapT {α β : Type} (g : α → β) (T : Tab α) : Tab β := T.map fun t => (t.1, g t.2)
theorem keys_mapT {α β : Type} (g : α → β) (T : Tab α) : keysA (mapT g T) = keysA T := by unfold keysA mapT; rw [List.map_map]; rfl
theorem look_mapT {α β : Type} (g : α → β) (k : List Str) : ∀ T : Tab α, lookA (mapT g T) k = (lookA T k).map g
  | [] => rfl
  | t :: T => by
    show lookA ((t.1, g t.2) :: mapT g T) k = _
    rw [look_cons, look_cons, look_mapT g k T]
    by_cases h : t.1 = k
    · rw [if_pos h, if_pos h] <;> rfl
    · rw [if_neg h, if_neg h]
theorem put_mapT {α β : Type} (g : α → β) (T : Tab α) (k : List Str) (v : α) : mapT g (putA T k v) = putA (mapT g T) k (g v) := by
  unfold putA
  rw [look_any, look_any, look_mapT, Option.isSome_map]
  split
  · unfold mapT
    rw [List.map_map, List.map_map]
    refine List.map_congr_left fun t _ => ?_
    show ((if t.1 = k then (t.1, v) else t).1, g (if t.1 = k then (t.1, v) else t).2) = if t.1 = k then (t.1, g v) else (t.1, g t.2)
    by_cases h : t.1 = k
    · rw [if_pos h, if_pos h]
    · rw [if_neg h, if_neg h]
  · unfold mapT
    rw [List.map_append] <;> rfl
theorem put_same {α : Type} {T : Tab α} {k : List Str} {v : α} (hn : (keysA T).Nodup) (h : lookA T k = some v) : putA T k v = T := by
  unfold putA
  rw [look_any, h, if_pos (show (some v).isSome = true from rfl)]
  have : ∀ t ∈ T, (if t.1 = k then (t.1, v) else t) = t := fun t ht => by
    by_cases e : t.1 = k
    · rw [if_pos e]
      have := look_mem hn ht
      rw [e, h] at this
      cases this
      rfl
    · rw [if_neg e]
  rw [List.map_congr_left this, List.map_id']
def step1 (fo n : Int) (o : Option (Int × List Int)) : Option (Int × List Int) := if 0 ≤ fo ∧ (o.getD (0, [])).1 ≤ fo then some (fo, (if (o.getD (0, [])).1 < fo then [] else (o.getD (0, [])).2) ++ [n]) else o
theorem look_step (fo n : Int) (B : Best) (k j : List Str) : lookA (stepB fo n B k) j = if j = k then step1 fo n (lookA B j) else lookA B j := by
  unfold stepB step1 getB
  by_cases e : j = k
  · subst e
    rw [if_pos rfl]
    split
    · rw [look_put, if_pos rfl]
    · rfl
  · rw [if_neg e]
    split
    · rw [look_put, if_neg e]
    · rfl
theorem look_steps (fo n : Int) (j : List Str) : ∀ (fs : List (List Str)) (B : Best), fs.Nodup → lookA (fs.foldl (stepB fo n) B) j = if j ∈ fs then step1 fo n (lookA B j) else lookA B j
  | [], B, _ => by rw [if_neg (fun h => nomatch h)] <;> rfl
  | k :: fs, B, nd => by
    rw [List.foldl_cons, look_steps fo n j fs _ (List.nodup_cons.mp nd).2, look_step]
    by_cases e : j = k
    · subst e
      rw [if_neg (List.nodup_cons.mp nd).1, if_pos rfl, if_pos List.mem_cons_self]
    · rw [if_neg e]
      have : j ∈ k :: fs ↔ j ∈ fs := by simp [e]
      simp only [this]
def Ch (pl : List Int) (j : List Str) (ts : List Tl) : Option (Int × List Int) → Prop
  | none => ∀ t ∈ ts, j ∈ t.2.2.2 → forceD t.2.1 t.2.2.1 pl < 0
  | some (M, l) => 0 ≤ M ∧ (∀ t ∈ ts, j ∈ t.2.2.2 → forceD t.2.1 t.2.2.1 pl ≤ M) ∧ (∃ t ∈ ts, j ∈ t.2.2.2 ∧ forceD t.2.1 t.2.2.1 pl = M) ∧ l = (ts.filter fun t => decide (j ∈ t.2.2.2) && decide (forceD t.2.1 t.2.2.1 pl = M)).map (·.1)
theorem filt_none {M : Int} {pl : List Int} {j : List Str} {ts : List Tl} (h : ∀ t ∈ ts, j ∈ t.2.2.2 → forceD t.2.1 t.2.2.1 pl < M) : (ts.filter fun t => decide (j ∈ t.2.2.2) && decide (forceD t.2.1 t.2.2.1 pl = M)) = [] := by
  rw [List.filter_eq_nil_iff]
  intro t ht z
  obtain ⟨a, b⟩ := Bool.and_eq_true_iff.mp z
  have := h t ht (of_decide_eq_true a)
  have := of_decide_eq_true b
  omega
theorem ch_step {pl : List Int} {j : List Str} {ts : List Tl} {t : Tl} {o : Option (Int × List Int)} (h : Ch pl j ts o) : Ch pl j (ts ++ [t]) (if j ∈ t.2.2.2 then step1 (forceD t.2.1 t.2.2.1 pl) t.1 o else o) := by
  by_cases hj : j ∈ t.2.2.2
  · rw [if_pos hj]
    unfold step1
    generalize hfo : forceD t.2.1 t.2.2.1 pl = fo
    cases o with
    | none =>
      have h : ∀ t ∈ ts, j ∈ t.2.2.2 → forceD t.2.1 t.2.2.1 pl < 0 := h
      by_cases z : 0 ≤ fo
      · rw [if_pos ⟨z, z⟩]
        refine ⟨z, fun u hu hju => ?_, ⟨t, by simp, hj, hfo⟩, ?_⟩
        · rcases List.mem_append.mp hu with m | m
          · have := h u m hju; omega
          · rw [List.mem_singleton.mp m, hfo]; exact Int.le_refl _
        · rw [List.filter_append, filt_none (fun u hu hju => by have := h u hu hju; omega)]
          rw [List.filter_cons_of_pos (by rw [decide_eq_true hj, decide_eq_true hfo] <;> rfl)]
          show (if (0 : Int) < fo then [] else []) ++ [t.1] = [t.1]
          split <;> rfl
      · rw [if_neg (fun y => z y.1)]
        intro u hu hju
        rcases List.mem_append.mp hu with m | m
        · exact h u m hju
        · rw [List.mem_singleton.mp m, hfo]; omega
    | some b =>
      obtain ⟨M, l⟩ := b
      obtain ⟨h0, h1, ⟨u0, hu0, hj0, e0⟩, rfl⟩ : 0 ≤ M ∧ (∀ t ∈ ts, j ∈ t.2.2.2 → forceD t.2.1 t.2.2.1 pl ≤ M) ∧ (∃ t ∈ ts, j ∈ t.2.2.2 ∧ forceD t.2.1 t.2.2.1 pl = M) ∧ l = (ts.filter fun t => decide (j ∈ t.2.2.2) && decide (forceD t.2.1 t.2.2.1 pl = M)).map (·.1) := h
      by_cases z : 0 ≤ fo ∧ M ≤ fo
      · have z' : 0 ≤ fo ∧ ((some (M, (ts.filter fun t => decide (j ∈ t.2.2.2) && decide (forceD t.2.1 t.2.2.1 pl = M)).map (·.1)) : Option (Int × List Int)).getD (0, [])).1 ≤ fo := z
        rw [if_pos z']
        refine ⟨z.1, fun u hu hju => ?_, ⟨t, by simp, hj, hfo⟩, ?_⟩
        · rcases List.mem_append.mp hu with m | m
          · have := h1 u m hju; omega
          · rw [List.mem_singleton.mp m, hfo]; exact Int.le_refl _
        · rw [List.filter_append, List.map_append, List.filter_cons_of_pos (by rw [decide_eq_true hj, decide_eq_true hfo] <;> rfl)]
          show (if M < fo then [] else _) ++ [t.1] = _ ++ [t.1]
          congr 1
          by_cases y : M < fo
          · rw [if_pos y, filt_none (fun u hu hju => by have := h1 u hu hju; omega)] <;> rfl
          · rw [if_neg y]
            have : M = fo := by omega
            subst this
            rfl
      · have z' : ¬ (0 ≤ fo ∧ ((some (M, (ts.filter fun t => decide (j ∈ t.2.2.2) && decide (forceD t.2.1 t.2.2.1 pl = M)).map (·.1)) : Option (Int × List Int)).getD (0, [])).1 ≤ fo) := z
        rw [if_neg z']
        have lt : fo < M := by
          by_cases y : 0 ≤ fo
          · have : ¬ M ≤ fo := fun q => z ⟨y, q⟩
            omega
          · omega
        refine ⟨h0, fun u hu hju => ?_, ⟨u0, List.mem_append.mpr (.inl hu0), hj0, e0⟩, ?_⟩
        · rcases List.mem_append.mp hu with m | m
          · exact h1 u m hju
          · rw [List.mem_singleton.mp m, hfo]; omega
        · rw [List.filter_append, List.filter_cons_of_neg (fun q => by
            have := of_decide_eq_true (Bool.and_eq_true_iff.mp q).2
            omega), List.filter_nil, List.append_nil]
  · rw [if_neg hj]
    cases o with
    | none =>
      intro u hu hju
      rcases List.mem_append.mp hu with m | m
      · exact (show ∀ t ∈ ts, j ∈ t.2.2.2 → forceD t.2.1 t.2.2.1 pl < 0 from h) u m hju
      · rw [List.mem_singleton.mp m] at hju; exact absurd hju hj
    | some b =>
      obtain ⟨M, l⟩ := b
      obtain ⟨h0, h1, ⟨u0, hu0, hj0, e0⟩, rfl⟩ : 0 ≤ M ∧ (∀ t ∈ ts, j ∈ t.2.2.2 → forceD t.2.1 t.2.2.1 pl ≤ M) ∧ (∃ t ∈ ts, j ∈ t.2.2.2 ∧ forceD t.2.1 t.2.2.1 pl = M) ∧ l = (ts.filter fun t => decide (j ∈ t.2.2.2) && decide (forceD t.2.1 t.2.2.1 pl = M)).map (·.1) := h
      refine ⟨h0, fun u hu hju => ?_, ⟨u0, List.mem_append.mpr (.inl hu0), hj0, e0⟩, ?_⟩
      · rcases List.mem_append.mp hu with m | m
        · exact h1 u m hju
        · rw [List.mem_singleton.mp m] at hju; exact absurd hju hj
      · have e1 : ([t].filter fun t => decide (j ∈ t.2.2.2) && decide (forceD t.2.1 t.2.2.1 pl = M)) = [] := by simp [hj]
        rw [List.filter_append, e1, List.append_nil]
theorem ch_best (pl : List Int) (j : List Str) : ∀ (ts pre : List Tl) (B : Best), (∀ t ∈ ts, t.2.2.2.Nodup) → Ch pl j pre (lookA B j) → Ch pl j (pre ++ ts) (lookA (ts.foldl (tellB pl) B) j)
  | [], pre, B, _, h => by rw [List.append_nil]; exact h
  | t :: ts, pre, B, nd, h => by
    rw [List.foldl_cons, show pre ++ t :: ts = pre ++ [t] ++ ts by simp]
    refine ch_best pl j ts (pre ++ [t]) _ (fun u hu => nd u (List.mem_cons_of_mem _ hu)) ?_
    show Ch pl j (pre ++ [t]) (lookA (t.2.2.2.foldl (stepB (forceD t.2.1 t.2.2.1 pl) t.1) B) j)
    rw [look_steps _ _ _ _ _ (nd t List.mem_cons_self)]
    exact ch_step h
theorem ch_all {pl : List Int} {j : List Str} {ts : List Tl} (nd : ∀ t ∈ ts, t.2.2.2.Nodup) : Ch pl j ts (lookA (bestD pl ts) j) := by
  have := ch_best pl j ts [] [] nd (show Ch pl j [] none from fun _ h => nomatch h)
  rwa [List.nil_append] at this
theorem best_perm {pl : List Int} {ts ts' : List Tl} (nd : ∀ t ∈ ts, t.2.2.2.Nodup) (p : ts'.Perm ts) (srt : (ts'.map (·.1)).Pairwise (· ≤ ·)) (j : List Str) : (lookA (bestD pl ts') j).map (·.2) = (lookA (bestD pl ts) j).map fun b => sortI b.2 := by
  have c' : Ch pl j ts' (lookA (bestD pl ts') j) := ch_all fun t ht => nd t (p.mem_iff.mp ht)
  have c : Ch pl j ts (lookA (bestD pl ts) j) := ch_all nd
  generalize lookA (bestD pl ts') j = o' at c'
  generalize lookA (bestD pl ts) j = o at c
  cases o' with
  | none =>
    cases o with
    | none => rfl
    | some b =>
      obtain ⟨M, l⟩ := b
      obtain ⟨h0, _, ⟨t, ht, hj, e⟩, _⟩ := c
      have := (show ∀ t ∈ ts', j ∈ t.2.2.2 → forceD t.2.1 t.2.2.1 pl < 0 from c') t (p.mem_iff.mpr ht) hj
      omega
  | some b' =>
    obtain ⟨M', l'⟩ := b'
    obtain ⟨h0', h1', ⟨t', ht', hj', e'⟩, el'⟩ := c'
    cases o with
    | none =>
      have := (show ∀ t ∈ ts, j ∈ t.2.2.2 → forceD t.2.1 t.2.2.1 pl < 0 from c) t' (p.mem_iff.mp ht') hj'
      omega
    | some b =>
      obtain ⟨M, l⟩ := b
      obtain ⟨h0, h1, ⟨t, ht, hj, e⟩, el⟩ := c
      have a1 := h1' t (p.mem_iff.mpr ht) hj
      have a2 := h1 t' (p.mem_iff.mp ht') hj'
      have eM : M' = M := by omega
      subst eM
      show some l' = some (sortI l)
      rw [sortI_eq (ns := l) (ns' := l')]
      · rw [el', el]
        exact (p.filter _).map _
      · rw [el']
        exact srt.sublist (List.filter_sublist.map _)
theorem force_pos {sc : Str} {p pl : List Int} (h : forceD sc p pl ≠ -1) : 0 ≤ forceD sc p pl := by
  unfold forceD at h ⊢
  split
  · omega
  · split
    · decide
    · split
      · decide
      · split
        · decide
        · rename_i h1 h2 h3 h4
          rw [if_neg h1, if_neg h2, if_neg h3, if_neg h4] at h
          exact absurd rfl h
end D
namespace D
open PySem L2
def tpR (H : Hp) (t : Tl) (v : V) : Prop := ∃ a pp ft xs, v = .ref a ∧ H a = some (.tup [.int t.1, .str t.2.1, .ref pp, .ref ft]) ∧ iT H pp t.2.2.1 ∧ H ft = some (.tup xs) ∧ phsR H t.2.2.2 xs
theorem tpR.mono {H H' : Hp} {t : Tl} {v : V} (h : tpR H t v) (g : TSame H H') : tpR H' t v := let ⟨a, pp, ft, xs, e, h1, h2, h3, h4⟩ := h; ⟨a, pp, ft, xs, e, g _ _ h1, g _ _ h2, g _ _ h3, h4.mono g⟩
def isI (_ : Hp) (i : Int) (v : V) : Prop := v = .int i
def spTAt : Sp := fun vs H Q _ => ∃ (ta pb : Addr) (ts : List Tl) (xs : List V) (pl : List Int), vs = [.ref ta, .ref pb] ∧ H ta = some (.lst xs) ∧ Paired (tpR H) ts xs ∧ iT H pb pl ∧ pl.length ≤ 1000 ∧ TlsOk ts ∧ (∀ t ∈ ts, t.2.1 ∈ scopes4) ∧
  ∀ r kvs H', Same H H' → H r = none → H' r = some (.dT kvs) → tabR wnR H' (mapT (·.2) (bestD pl ts)) kvs → (keysA (bestD pl ts)).Nodup → Q (.ref r) H'
structure TwoD (H : Hp) (ds dt : Addr) (B : Best) (ks kt : List (List Key × V)) : Prop where
  s : H ds = some (.dT ks)
  t : H dt = some (.dT kt)
  rs : tabR isI H (mapT (·.1) B) ks
  rt : tabR wnR H (mapT (·.2) B) kt
  ne : ds ≠ dt
theorem TwoD.mono {H H' : Hp} {ds dt : Addr} {B : Best} {ks kt : List (List Key × V)} (h : TwoD H ds dt B ks kt) (g : Same H H') : TwoD H' ds dt B ks kt := ⟨g _ _ h.s, g _ _ h.t, tab_mono h.rs fun _ _ z => z, tab_mono h.rt fun _ _ z => z.mono g.t, h.ne⟩
section
variable {P : Program} {w : World} {K : PySem.W.Frag} {mg : Str → Option Value} {base : Heap} {f : Addr} {fd : FuncData}
theorem scTAt : FnScope ["tellings", "place", "strengths", "told", "number", "scope", "path", "phrases", "power", "phrase"] ["tellings", "place"] (defScope s_told_at) := ⟨rfl, rfl, rfl, by decide +kernel, rfl, by decide +kernel, by decide +kernel⟩
set_option maxHeartbeats 16000000 in
theorem ok_tat (F : Fun K "told_at" "told_at" s_told_at f fd) (T : NmS mg) (GF : Def P w K mg base CX0 1 "strength" ["scope", "told", "place"] spStrA) : FnOk P w K mg base CX0 2 f fd ["tellings", "place"] spTAt := by
  obtain ⟨tn, hn⟩ := T.n
  refine F.ok scTAt (fun vs H Q E h => ?_) (fun cdv A outer s H vs Q E hr h => ?_)
  · obtain ⟨ta, pb, ts, xs, pl, rfl, _⟩ := h
    rfl
  obtain ⟨ta, pb, ts, xs, pl, rfl, hta, hts, hpb, hpl, hok, hsc, q⟩ := h
  have hu1 : (A.deeper (PyProof.Rows.envOfC "told_at" (defScope s_told_at) s.heap.objs.size f cdv)).units + 1 < cLine := by have := hr.un; omega
  refine ⟨_, pss_cons (ps_set (i := 2) scTAt.nd rfl (Or.inl rfl) pe_dnewT)
    (pss_cons (ps_set (i := 3) scTAt.nd rfl (Or.inl rfl) pe_dnewT)
    (pss_cons (ps_for PassesOwn.never rfl (pi_list (pv 0)) (pg_tup rfl (pgs_cons (pg_name (i := 4) scTAt.nd rfl (Or.inl rfl)) (pgs_cons (pg_name (i := 5) scTAt.nd rfl (Or.inl rfl)) (pgs_cons (pg_name (i := 6) scTAt.nd rfl (Or.inl rfl)) (pgs_cons (pg_name (i := 7) scTAt.nd rfl (Or.inl rfl)) pgs_nil)))))
      (pss_cons (ps_set (i := 8) scTAt.nd rfl (Or.inl rfl) (pe_def GF hr (pa_cons (pv 5) (pa_cons (pv 6) (pa_cons (pv 1) pa_nil)))))
      (pss_cons (ps_if (pt_cmpR op_eq (pv 8) (pe_glob (v := .int (-1)) rfl hn ⟨_, rfl⟩) (nomark _)) (pss_one ps_continue) pss_nil)
      (pss_one (ps_for PassesOwn.never rfl (pi_tup (pv 7)) (pg_name (i := 9) scTAt.nd rfl (Or.inl rfl))
        (pss_one (ps_if (PW.pt (pw_or (pt_cmp (pc_dnotin hu1 (pv 9) (pv 3))) (pw_or1 (pt_cmpR op_gt (pv 8) (pe_dget hu1 (pv 2) (pv 9) (fun _ _ => rfl)) (nomark _)))))
          (pss_cons (ps_dput hu1 (pv 2) (pv 9) (pv 8) rfl)
          (pss_one (ps_dput hu1 (pv 3) (pv 9) (pe_tup (pa_cons (pv 4) pa_nil)) rfl)))
          (pss_one (ps_if (pt_cmpR op_eq (pv 8) (pe_dget hu1 (pv 2) (pv 9) (fun _ _ => rfl)) (nomark _))
            (pss_one (ps_dput hu1 (pv 3) (pv 9) (pe_op op_catX (pe_dget hu1 (pv 3) (pv 9) (fun _ _ => rfl)) (pe_tup (pa_cons (pv 4) pa_nil))) rfl)) pss_nil)))))))))
    (pss_one (ps_ret (pv 3))))), ?_⟩
  have hb := big
  refine fun ds hds => fun dt hdt => ?_
  have g0 := same_new hds (.dT [])
  have nsd : ds ≠ dt := fun e => by rw [← e, upd_same] at hdt; cases hdt
  have ndt : H dt = none := g0.free hdt
  have g1 := g0.trans (same_new hdt (.dT []))
  have d0 : TwoD (upd (upd H ds (.dT [])) dt (.dT [])) ds dt [] [] [] := ⟨by rw [upd_ne nsd, upd_same], upd_same, .nil, .nil, nsd⟩
  generalize upd (upd H ds (.dT [])) dt (.dT []) = H0 at g1 d0 ⊢
  refine ⟨_, rfl, ta, rfl, ⟨_, SqL.of (g1 _ _ hta)⟩, ?_⟩
  refine for_list (K := K) (a := ta) (xs := xs) (fun i σ' H' => Same H H' ∧ ∃ (ks kt : List (List Key × V)) (u4 u5 u6 u7 u8 u9 : Option V), σ' = [some (.ref ta), some (.ref pb), some (.ref ds), some (.ref dt), u4, u5, u6, u7, u8, u9] ∧ TwoD H' ds dt ((ts.take i).foldl (tellB pl) []) ks kt ∧ BOk ((ts.take i).foldl (tellB pl) []) (6 * i) (fun _ => i)) ?_ (fun i σ' H' _ h => SqL.of (h.1 _ _ hta)) ?_ ?_
  · exact ⟨g1, [], [], _, _, _, _, _, _, rfl, d0, ⟨List.nodup_nil, Nat.le_refl _, fun k b hb => nomatch hb⟩⟩
  · rintro i v σ' H1 hi ⟨g, ks, kt, u4, u5, u6, u7, u8, u9, rfl, hD, hBo⟩
    obtain ⟨t, et, htv⟩ := paired_get hts hi
    have hscp := hsc _ (List.mem_of_getElem? et)
    obtain ⟨n, sc, p, shs⟩ := t
    obtain ⟨o1, o2, o3⟩ := hok.ok _ (List.mem_of_getElem? et)
    have o1 : shs.Nodup := o1
    have o2 : shs.length ≤ 6 := o2
    have o3 : p.length ≤ 1000 := o3
    obtain ⟨va, pp, sl, ys, rfl, k1, k2, k3, k4⟩ := htv.mono g.t
    have hi12 : i < 25 := by
      have := (List.getElem?_eq_some_iff.mp et).1
      have := hok.few
      omega
    have eB : (ts.take (i + 1)).foldl (tellB pl) [] = shs.foldl (stepB (forceD sc p pl) n) ((ts.take i).foldl (tellB pl) []) := by
      rw [List.take_add_one, et, List.foldl_append] <;> rfl
    rw [eB]
    generalize (ts.take i).foldl (tellB pl) [] = B at hD hBo
    refine ⟨va, _, rfl, SqT.of k1, rfl, _, _, rfl, _, _, rfl, _, _, rfl, _, _, rfl, rfl, ?_⟩
    refine ⟨_, rfl, _, rfl, _, rfl, sc, pp, pb, p, pl, rfl, hscp, k2, g _ _ hpb, o3, hpl, fun H2 g2 => ?_⟩
    have fpos := @force_pos sc p pl
    generalize forceD sc p pl = fo at fpos
    refine ⟨_, rfl, rfl, _, rfl, ?_⟩
    refine ite2 (fun z => ?_) (fun z => ?_)
    · have z' : fo = -1 := V.int.inj (of_decide_eq_true z)
      have eS : ∀ (l : List (List Str)) (B : Best), l.foldl (stepB fo n) B = B := fun l => by
        induction l with
        | nil => intro B; rfl
        | cons x r ih =>
          intro B
          rw [List.foldl_cons, show stepB fo n B x = B from if_neg (fun y => by omega)]
          exact ih B
      refine ⟨g.trans g2, ks, kt, _, _, _, _, _, _, rfl, ?_, ?_⟩
      · rw [eS]; exact hD.mono g2
      · rw [eS]; exact hBo.mono (by omega) fun k => Nat.le_succ _
    have f0 : 0 ≤ fo := fpos fun y => z (decide_eq_true (congrArg V.int y))
    refine ⟨_, rfl, sl, rfl, ⟨_, SqT.of (g2 _ _ k3)⟩, ?_⟩
    have yl := Paired.length k4
    refine for_tup (K := K) (a := sl) (xs := ys) (fun j σ' H' => Same H H' ∧ H' sl = some (.tup ys) ∧ phsR H' shs ys ∧ ∃ (ks kt : List (List Key × V)) (u9 : Option V), σ' = [some (.ref ta), some (.ref pb), some (.ref ds), some (.ref dt), some (.int n), some (.str sc), some (.ref pp), some (.ref sl), some (.int fo), u9] ∧ TwoD H' ds dt ((shs.take j).foldl (stepB fo n) B) ks kt ∧ BOk ((shs.take j).foldl (stepB fo n) B) (6 * i + j) (fun k => i + (shs.take j).count k)) ?_ (fun j σ' H' _ h => SqT.of h.2.1) ?_ ?_
    · exact ⟨g.trans g2, g2 _ _ k3, k4.mono g2.t, ks, kt, _, rfl, hD.mono g2, hBo.mono (Nat.le_refl _) fun k => Nat.le_refl _⟩
    · rintro j y σ' H3 hj ⟨g3, hsl, hph, ks, kt, u9, rfl, hD3, hBo3⟩
      obtain ⟨k, ek, pk, rfl, hpk⟩ := paired_get hph hj
      have hj6 : j < 6 := by
        have := (List.getElem?_eq_some_iff.mp ek).1
        omega
      have eS : (shs.take (j + 1)).foldl (stepB fo n) B = stepB fo n ((shs.take j).foldl (stepB fo n) B) k := by
        rw [List.take_add_one, ek, List.foldl_append] <;> rfl
      have hBo4 := hBo3.step fo n k
      rw [eS]
      have hBo5 : BOk (stepB fo n ((shs.take j).foldl (stepB fo n) B) k) (6 * i + (j + 1)) (fun x => i + (shs.take (j + 1)).count x) := hBo4.mono (by omega) fun x => by
        rw [List.take_add_one, ek, List.count_append]
        show i + (shs.take j).count x + (if x = k then 1 else 0) ≤ i + ((shs.take j).count x + [k].count x)
        rw [List.count_singleton]
        by_cases z : x = k
        · rw [if_pos z, if_pos (by rw [z]; exact beq_self_eq_true _)]; omega
        · rw [if_neg z]; omega
      clear eS hBo4
      generalize (shs.take j).foldl (stepB fo n) B = C at hD3 hBo3 hBo5
      have lenS : ks.length ≤ 6 * i + j := by
        have e := Paired.length hD3.rs
        unfold mapT at e
        rw [List.length_map] at e
        have := hBo3.len
        omega
      have lenT : kt.length ≤ 6 * i + j := by
        have e := Paired.length hD3.rt
        unfold mapT at e
        rw [List.length_map] at e
        have := hBo3.len
        omega
      have lk := look_mapT (fun b : Int × List Int => b.1) k C
      have lw := look_mapT (fun b : Int × List Int => b.2) k C
      have hpk' : H3 pk = some (.tup ((inr k).map kV)) := by rw [inr_kV]; exact hpk
      have put2 : ∀ (D : Ends) (Cn : Best), Cn = putA C k (fo, [n]) → BOk Cn (6 * i + (j + 1)) (fun x => i + (shs.take (j + 1)).count x) → D.nx = (fun σ' H' => Same H H' ∧ H' sl = some (.tup ys) ∧ phsR H' shs ys ∧ ∃ (ks kt : List (List Key × V)) (u9 : Option V), σ' = [some (.ref ta), some (.ref pb), some (.ref ds), some (.ref dt), some (.int n), some (.str sc), some (.ref pp), some (.ref sl), some (.int fo), u9] ∧ TwoD H' ds dt Cn ks kt ∧ BOk Cn (6 * i + (j + 1)) (fun x => i + (shs.take (j + 1)).count x)) →
          tSeq (sDPut (tVar 2) (tVar 9) (tVar 8)) (sDPut (tVar 3) (tVar 9) (tTup (tCons (tVar 4) tNil))) D [some (.ref ta), some (.ref pb), some (.ref ds), some (.ref dt), some (.int n), some (.str sc), some (.ref pp), some (.ref sl), some (.int fo), some (.ref pk)] H3 := by
        intro D Cn eC bC hD
        refine ⟨_, rfl, _, rfl, _, rfl, ds, _, rfl, DPut.t (k := inr k) hD3.s hpk' (by omega), ?_⟩
        have t4 : TSame H3 (upd H3 ds (.dT (putK ks (inr k) (.int fo)))) := TSame.upd fun xs z => by rw [hD3.s] at z; cases z
        refine ⟨_, rfl, (by show 1 ≤ sizeLine; decide), fun t1 ht1 => ?_⟩
        have g5 := same_new ht1 (.tup [.int n])
        have e5 : upd (upd H3 ds (.dT (putK ks (inr k) (.int fo)))) t1 (.tup [.int n]) t1 = some (.tup [.int n]) := upd_same
        have h5t := g5 _ _ (show upd H3 ds (.dT (putK ks (inr k) (.int fo))) dt = some (.dT kt) by rw [upd_ne hD3.ne.symm]; exact hD3.t)
        have h5s := g5 _ _ (show upd H3 ds (.dT (putK ks (inr k) (.int fo))) ds = some (.dT (putK ks (inr k) (.int fo))) from upd_same)
        have h5l := g5 _ _ (show upd H3 ds (.dT (putK ks (inr k) (.int fo))) sl = some (.tup ys) from t4 _ _ hsl)
        have h5k := g5 _ _ (t4 _ _ hpk')
        have t5 := t4.trans g5.t
        have s5 : Same H (upd (upd H3 ds (.dT (putK ks (inr k) (.int fo)))) t1 (.tup [.int n])) := (keep_upd hds g3 _).trans g5
        generalize upd (upd H3 ds (.dT (putK ks (inr k) (.int fo)))) t1 (.tup [.int n]) = H5 at g5 e5 h5t h5s h5l h5k t5 s5
        refine ⟨_, rfl, _, rfl, dt, _, rfl, DPut.t (k := inr k) h5t h5k (by omega), ?_⟩
        have t6 : TSame H5 (upd H5 dt (.dT (putK kt (inr k) (.ref t1)))) := TSame.upd fun xs z => by rw [h5t] at z; cases z
        rw [hD]
        refine ⟨keep_upd ndt s5 _, t6 _ _ h5l, hph.mono (t5.trans t6), _, _, _, rfl, ⟨by rw [upd_ne hD3.ne]; exact h5s, upd_same, ?_, ?_, hD3.ne⟩, bC⟩
        · rw [eC, put_mapT]
          exact tab_mono (tab_put (R := isI) (H := H3) hD3.rs rfl) fun _ _ z => z
        · rw [eC, put_mapT]
          exact tab_put (tab_mono hD3.rt fun _ _ z => z.mono (t5.trans t6)) ⟨t1, rfl, t6 _ _ e5⟩
      refine ⟨_, rfl, _, rfl, dt, _, rfl, DGet.t (k := inr k) hD3.t hpk', _, rfl, ?_⟩
      rcases tab_look (k := k) hD3.rt with ⟨e1, e2⟩ | ⟨wl, wv, e1, e2, rw1⟩
      · rw [e2]
        have eC : lookA C k = none := by
          rw [lw] at e1
          cases e : lookA C k with
          | none => rfl
          | some b => rw [e] at e1; cases e1
        have gB : getB C k = (0, []) := by unfold getB; rw [eC] <;> rfl
        have eS : stepB fo n C k = putA C k (fo, [n]) := by
          unfold stepB
          rw [gB, if_pos ⟨f0, f0⟩]
          congr 2
          split <;> rfl
        exact iteT (iteT (put2 _ _ eS hBo5 rfl))
      · rw [e2]
        obtain ⟨b, eC, rfl⟩ : ∃ b, lookA C k = some b ∧ wl = b.2 := by
          rw [lw] at e1
          cases e : lookA C k with
          | none => rw [e] at e1; cases e1
          | some b => rw [e] at e1; cases e1; exact ⟨b, rfl, rfl⟩
        have gB : getB C k = b := by unfold getB; rw [eC] <;> rfl
        obtain ⟨sv, es1, es2⟩ : ∃ sv, valV ks (inr k) = some sv ∧ sv = .int b.1 := by
          rcases tab_look (k := k) hD3.rs with ⟨e1, e2⟩ | ⟨x, xv, e1, e2, r⟩
          · rw [lk, eC] at e1; cases e1
          · rw [lk, eC] at e1
            cases e1
            exact ⟨xv, e2, r⟩
        subst es2
        have dgs := DGet.t (k := inr k) hD3.s hpk'
        rw [es1] at dgs
        refine iteF ⟨_, rfl, _, rfl, _, rfl, ds, _, rfl, dgs, _, _, rfl, rfl, _, rfl, ?_⟩
        refine ite2 (fun z => ?_) (fun z => ?_)
        · have z' : fo > b.1 := of_decide_eq_true z
          have eS : stepB fo n C k = putA C k (fo, [n]) := by
            unfold stepB
            rw [gB, if_pos ⟨f0, Int.le_of_lt z'⟩, if_pos z'] <;> rfl
          exact put2 _ _ eS hBo5 rfl
        · have z' : ¬ fo > b.1 := fun y => z (decide_eq_true y)
          refine ⟨_, rfl, _, rfl, _, rfl, ds, _, rfl, dgs, rfl, _, rfl, ?_⟩
          refine ite2 (fun y => ?_) (fun y => ?_)
          · have y' : fo = b.1 := V.int.inj (of_decide_eq_true y)
            have eS : stepB fo n C k = putA C k (fo, b.2 ++ [n]) := by
              unfold stepB
              rw [gB, if_pos ⟨f0, by omega⟩, if_neg (by omega)]
            obtain ⟨wp, rfl, hwp⟩ := rw1
            have dgt := DGet.t (k := inr k) hD3.t hpk'
            rw [e2] at dgt
            have bl : b.2.length ≤ 26 := by
              have h1 := hBo3.few k b eC
              have h2 := count_take (o1.sublist (List.take_sublist j shs)) k
              omega
            refine ⟨_, rfl, _, rfl, dt, _, rfl, dgt, _, rfl, (by show 1 ≤ sizeLine; decide), fun t1 ht1 => ?_⟩
            have g5 := same_new ht1 (.tup [.int n])
            refine ⟨wp, t1, _, _, rfl, rfl, g5 _ _ hwp, upd_same, (by rw [List.length_map]; show b.2.length + 1 ≤ sizeLine; omega), fun t2 H6 g6 h6 => ?_⟩
            have g36 := g5.trans g6
            have hD6 := hD3.mono g36
            refine ⟨_, rfl, _, rfl, dt, _, rfl, DPut.t (k := inr k) hD6.t (g36 _ _ hpk') (by omega), ?_⟩
            have t7 : TSame H6 (upd H6 dt (.dT (putK kt (inr k) (.ref t2)))) := TSame.upd fun xs z => by rw [hD6.t] at z; cases z
            refine ⟨keep_upd ndt (g3.trans g36) _, t7 _ _ (g36 _ _ hsl), hph.mono (g36.t.trans t7), ks, _, _, rfl, ⟨by rw [upd_ne hD3.ne]; exact hD6.s, upd_same, ?_, ?_, hD3.ne⟩, hBo5⟩
            · rw [eS, put_mapT, put_same (by rw [keys_mapT]; exact hBo3.nd) (by rw [look_mapT, eC, y'] <;> rfl)]
              exact tab_mono hD3.rs fun _ _ z => z
            · rw [eS, put_mapT]
              refine tab_put (tab_mono hD3.rt fun _ _ z => z.mono (g36.t.trans t7)) ⟨t2, rfl, t7 _ _ ?_⟩
              rw [h6, List.map_append] <;> rfl
          · have y' : fo ≠ b.1 := fun e => y (decide_eq_true (congrArg V.int e))
            have eS : stepB fo n C k = C := if_neg fun ⟨x1, x2⟩ => by rw [gB] at x2; omega
            rw [eS] at hBo5 ⊢
            exact ⟨g3, hsl, hph, ks, kt, _, rfl, hD3, hBo5⟩
    · rintro σ' H3 ⟨g3, hsl, hph, ks, kt, u9, rfl, hD3, hBo3⟩
      rw [← yl, List.take_length] at hD3 hBo3
      exact ⟨g3, ks, kt, _, _, _, _, _, _, rfl, hD3, hBo3.mono (by show 6 * i + shs.length ≤ 6 * (i + 1); omega) fun k => by have := count_take o1 k; show i + shs.count k ≤ i + 1; omega⟩
  · rintro σ' H1 ⟨g, ks, kt, u4, u5, u6, u7, u8, u9, rfl, hD, hBo⟩
    have xl := Paired.length hts
    rw [← xl, List.take_length] at hD hBo
    exact ⟨_, rfl, q dt kt _ g ndt hD.t hD.rt hBo.nd⟩
end
end D
namespace D
open PySem L2
def tlO (x : PTh) : List Tl := match x.2 with
  | .tell n sc ph bs _ => [(n, sc, x.1, shT ph bs)]
  | _ => []
theorem tls_ordP : ∀ (f : F) (p : List Int), tlsF f p = (ordP p f).flatMap tlO
  | .nil, _ => rfl
  | .say n ws r, p => by
    show tlsF r p = _
    rw [tls_ordP r p] <;> rfl
  | .tell n sc ph bs ms r, p => by
    show (n, sc, p, shT ph bs) :: tlsF r p = _
    rw [tls_ordP r p] <;> rfl
  | .part n i r, p => by
    show tlsF i (p ++ [n]) ++ tlsF r p = ((p, Th.part n i) :: (ordP (p ++ [n]) i ++ ordP p r)).flatMap tlO
    rw [tls_ordP i, tls_ordP r p, List.flatMap_cons, List.flatMap_append] <;> rfl
theorem tlO_sub : ∀ l : List PTh, ((l.flatMap tlO).map (·.1)).Sublist (l.map fun x => x.2.num)
  | [] => .slnil
  | x :: r => by
    rw [List.flatMap_cons, List.map_append, List.map_cons]
    obtain ⟨p, t⟩ := x
    cases t with
    | say n ws => exact .cons _ (tlO_sub r)
    | tell n sc ph bs ms => exact .cons₂ _ (tlO_sub r)
    | part n i => exact .cons _ (tlO_sub r)
theorem tls_nd {f : F} (h : (f.ord.map Th.num).Nodup) : ((tlsF f [0]).map (·.1)).Nodup := by
  rw [tls_ordP]
  refine (tlO_sub _).nodup ?_
  have e : (ordP [0] f).map (fun x : PTh => x.2.num) = f.ord.map Th.num := by rw [← ordP_snd [0] f, List.map_map] <;> rfl
  rw [e]
  exact h
theorem formW_bend (l : Str) (b : Str × Str) : formW l b = bendW l b := by
  refine str_ext ?_
  unfold formW bendW
  rw [cs_mk, cs_app, cs_mk]
theorem fok_of {ws : List Str} {last : Str} {bs : List (Str × Str)} (hm : MnOk ws) (hl : last ∈ ws) (h5 : bs.length ≤ 5) (h : BdsOk ws last bs) : FOk last bs := by
  obtain ⟨os, hp, nd, ho⟩ := h
  have eos : bs.map (formW last) = os := by
    have all : ∀ {bs : List (Str × Str)} {os : List Str}, Paired (bendR last) bs os → bs.map (formW last) = os := by
      intro bs os r
      induction r with
      | nil => rfl
      | cons h t ih => rw [List.map_cons, ih, formW_bend, bendW_of h]
    exact all hp
  refine ⟨h5, fun b hb => ?_, by rw [eos]; exact nd⟩
  obtain ⟨i, hi⟩ := List.getElem?_of_mem hb
  obtain ⟨o, eo, pre, e1, e2⟩ := paired_to hp hi
  have wl := hm.wd last hl
  have wo := hm.wd o (ho o (List.mem_of_getElem? eo))
  have ef : formW last b = o := by rw [formW_bend]; exact bendW_of ⟨pre, e1, e2⟩
  have l1 := congrArg Str.length e1
  have l2 := congrArg Str.length e2
  rw [len_app] at l1 l2
  have c1 : cs last = cs pre ++ cs b.1 := by rw [e1, cs_app]
  have c2 : cs o = cs pre ++ cs b.2 := by rw [e2, cs_app]
  have g1 : (cs pre ++ cs b.1).all good = true := by rw [← c1]; exact wl.2.2
  have g2 : (cs pre ++ cs b.2).all good = true := by rw [← c2]; exact wo.2.2
  rw [List.all_append, Bool.and_eq_true_iff] at g1 g2
  have hl2 := wo.2.1
  have hl1 := wo.1
  refine ⟨by omega, ?_, by omega, g1.2, g2.2, by rw [ef]; exact hl1, by rw [ef]; exact hl2⟩
  rw [c1, show last.length - b.1.length = (cs pre).length by rw [cs_len]; omega, List.drop_left]
abbrev tl0 : Tl := (0, ("" : Str), [], [])
def spTO : Sp := fun vs H Q _ => ∃ (v : V) (f : F) (ns : List Int) (ws : List Str), vs = [v] ∧ partR H 0 f v ∧ DocQ ns ws f 12 ∧ MnOk ws ∧
  ∀ r ts xs H', Same H H' → H r = none → H' r = some (.lst xs) → Paired (tpR H') ts xs → ts.Perm (tlsF f [0]) → (ts.map (·.1)).Pairwise (· ≤ ·) → Q (.ref r) H'
theorem getD_map {α β : Type} (f : α → β) (d : α) (l : List α) (i : Nat) : (l.map f).getD i (f d) = f (l.getD i d) := by
  rw [List.getD_eq_getElem?_getD, List.getD_eq_getElem?_getD, List.getElem?_map]
  cases l[i]? <;> rfl
theorem paired_pick {α β : Type} {F : α → β → Prop} (x : α) (y : β) {l : List α} {m : List β} (h : Paired F l m) : ∀ {js : List Nat}, (∀ j ∈ js, j < l.length) → Paired F (js.map fun i => l.getD i x) (js.map fun i => m.getD i y)
  | [], _ => .nil
  | j :: js, hj => .cons (paired_getD x y h (hj j List.mem_cons_self)) (paired_pick x y h fun i hi => hj i (List.mem_cons_of_mem _ hi))
section
variable {P : Program} {w : World} {K : PySem.W.Frag} {mg : Str → Option Value} {base : Heap} {f : Addr} {fd : FuncData}
theorem scTO : FnScope ["doc", "found", "thing", "path"] ["doc"] (defScope s_tellings_of) := ⟨rfl, rfl, rfl, by decide +kernel, rfl, by decide +kernel, by decide +kernel⟩
set_option maxHeartbeats 8000000 in
theorem ok_to (F : Fun K "tellings_of" "tellings_of" s_tellings_of f fd) (ms : mg "sorted" = none) (GW : Def P w K mg base CX0 21 "things_with_homes" ["part", "path"] (spTwh 21)) (GO : Def P w K mg base CX0 3 "forms" ["phrase", "bends"] spForms) : FnOk P w K mg base CX0 22 f fd ["doc"] spTO := by
  refine F.ok scTO (fun vs H Q E h => ?_) (fun cdv A outer s H vs Q E hr h => ?_)
  · obtain ⟨v, fo, ns, ws, rfl, _⟩ := h
    rfl
  obtain ⟨v, fo, ns, ws, rfl, hv, hD, hmn, q⟩ := h
  refine ⟨_, pss_cons (ps_set (i := 1) scTO.nd rfl (Or.inl rfl) (pe_lst pa_nil))
    (pss_cons (ps_for PassesOwn.never rfl (pi_list (pe_def GW hr (pa_cons (pv 0) (pa_cons (pe_tup (pa_cons pe_int pa_nil)) pa_nil)))) (pg_tup rfl (pgs_cons (pg_name (i := 2) scTO.nd rfl (Or.inl rfl)) (pgs_cons (pg_name (i := 3) scTO.nd rfl (Or.inl rfl)) pgs_nil)))
      (pss_one (ps_if (pt_cmpR op_eq (pe_ix ix_tup (pv 2) pe_int (fun _ _ => rfl)) pe_str (nomark _))
        (pss_one (ps_expr (pe_bm PySem.F.plainAttrs_list PySem.F.slot_list_append PySem.F.type_list_append mt_append (pv 1) (pa_cons (pe_tup (pa_cons (pe_ix ix_tup (pv 2) pe_int (fun _ _ => rfl)) (pa_cons (pe_ix ix_tup (pv 2) pe_int (fun _ _ => rfl)) (pa_cons (pv 3) (pa_cons (pe_def GO (hr.mono (by decide)) (pa_cons (pe_ix ix_tup (pv 2) pe_int (fun _ _ => rfl)) (pa_cons (pe_ix ix_tup (pv 2) pe_int (fun _ _ => rfl)) pa_nil))) pa_nil))))) pa_nil)))) pss_nil)))
    (pss_one (ps_ret (pe_callB call_sortedT rfl ms PyProof.Rows.boot_sorted (pa_cons (pv 1) pa_nil))))), ?_⟩
  have hb := big
  refine ⟨(by show 0 ≤ sizeLine; decide), fun l hl => ?_⟩
  have g1 := same_new hl (.lst [])
  have e1 : upd H l (.lst []) l = some (.lst []) := upd_same
  generalize upd H l (.lst []) = H1 at g1 e1 ⊢
  refine ⟨_, rfl, (by show 1 ≤ sizeLine; decide), fun t0 ht0 => ?_⟩
  have g2 := same_new ht0 (.tup [.int 0])
  have e2 : iT (upd H1 t0 (.tup [.int 0])) t0 [0] := upd_same
  have l2 := g2 _ _ e1
  generalize upd H1 t0 (.tup [.int 0]) = H2 at g2 e2 l2 ⊢
  have hdp := hD.dep
  have hfw := hD.few
  refine ⟨v, 0, fo, t0, [0], rfl, thR.mono (t := .part 0 fo) hv (g1.trans g2).t, e2, by omega, by omega, by show 1 + _ ≤ 1000; omega, fun r xs H3 g3 hr3 er hxs => ?_⟩
  have nlr : l ≠ r := fun e => by rw [← e, l2] at hr3; cases hr3
  have l3 := g3 _ _ l2
  have g13 := (g1.trans g2).trans g3
  refine ⟨r, rfl, ⟨_, SqL.of er⟩, ?_⟩
  refine for_list (K := K) (a := r) (xs := xs) (fun i σ' H' => Same H H' ∧ TSame H3 H' ∧ H' r = some (.lst xs) ∧ ∃ (zs : List V) (u2 u3 : Option V), σ' = [some v, some (.ref l), u2, u3] ∧ H' l = some (.lst zs) ∧ Paired (tpR H') (((ordP [0] fo).take i).flatMap tlO) zs) ?_ (fun i σ' H' _ h => SqL.of h.2.2.1) ?_ ?_
  · exact ⟨g13, TSame.refl _, er, [], _, _, rfl, l3, .nil⟩
  · rintro i y σ' H4 hi ⟨g4, t4, hr4, zs, u2, u3, rfl, hl4, hzs⟩
    obtain ⟨x, ex, hx⟩ := paired_get hxs hi
    obtain ⟨z, a, tu, rfl, k1, k2, k3⟩ := hx.mono t4
    have hth : ThOk ws x.2 := hD.ok _ (mem_ord (List.mem_of_getElem? ex))
    have etk : ((ordP [0] fo).take (i + 1)).flatMap tlO = ((ordP [0] fo).take i).flatMap tlO ++ tlO x := by
      rw [List.take_add_one, ex, List.flatMap_append]
      show _ ++ (tlO x ++ []) = _
      rw [List.append_nil]
    obtain ⟨ta, tx, et, hta, hk0, _⟩ := thR_head k3
    have zl : zs.length ≤ 25 := by
      have h1 := Paired.length hzs
      have h2 := (tlO_sub ((ordP [0] fo).take i)).length_le
      rw [List.length_map, List.length_map, List.length_take, ordP_len] at h2
      omega
    refine ⟨z, _, rfl, SqT.of k1, rfl, _, _, rfl, _, _, rfl, rfl, ?_⟩
    obtain ⟨xp, xt⟩ := x
    cases xt with
    | say n zw =>
      subst et
      refine ⟨_, rfl, ta, _, _, _, rfl, rfl, SqT.of hta, hk0, rfl, _, rfl, ?_⟩
      rw [show decide (V.str (knd (.say n zw)) = V.str "tell") = false from (by decide : decide (V.str "say" = V.str "tell") = false)]
      refine iteF ⟨g4, t4, hr4, zs, _, _, rfl, hl4, ?_⟩
      rw [etk]
      show Paired _ (_ ++ []) zs
      rw [List.append_nil]
      exact hzs
    | part n fi =>
      subst et
      refine ⟨_, rfl, ta, _, _, _, rfl, rfl, SqT.of hta, hk0, rfl, _, rfl, ?_⟩
      rw [show decide (V.str (knd (.part n fi)) = V.str "tell") = false from (by decide : decide (V.str "part" = V.str "tell") = false)]
      refine iteF ⟨g4, t4, hr4, zs, _, _, rfl, hl4, ?_⟩
      rw [etk]
      show Paired _ (_ ++ []) zs
      rw [List.append_nil]
      exact hzs
    | tell n sc ph bs mm =>
      obtain ⟨_, hph4, hphw, hbs5, ⟨p0, last, rfl, hbd⟩, _⟩ := (show TlOk ws sc ph bs mm from hth)
      obtain ⟨tb, x1, y1, z1, rfl, w1, ⟨pa, rfl, w2⟩, w3, w4⟩ := (show tellR H4 n sc (p0 ++ [last]) bs mm tu from k3)
      have hlast : last ∈ ws := hphw last (by simp)
      have p04 : p0.length ≤ 4 := by
        rw [List.length_append] at hph4
        omega
      refine ⟨_, rfl, tb, _, _, _, rfl, rfl, SqT.of w1, rfl, rfl, _, rfl, ?_⟩
      refine iteT ?_
      refine ⟨_, rfl, .inl ⟨rfl, _, SqL.of hl4⟩, _, rfl, tb, _, _, _, rfl, rfl, SqT.of w1, rfl, _, rfl, tb, _, _, _, rfl, rfl, SqT.of w1, rfl, _, rfl, _, rfl, tb, _, _, _, rfl, rfl, SqT.of w1, rfl, _, rfl, tb, _, _, _, rfl, rfl, SqT.of w1, rfl, pa, y1, p0, last, bs, rfl, w2, w3, p04, hmn.wd last hlast, fok_of hmn hlast hbs5 hbd, fun ft fx H5 g5 hft hfx => ?_⟩
      refine ⟨(by show 4 ≤ sizeLine; decide), fun t6 ht6 => ?_⟩
      have g6 := same_new ht6 (.tup [.int n, .str sc, .ref a, .ref ft])
      have e6 : upd H5 t6 (.tup [.int n, .str sc, .ref a, .ref ft]) t6 = some (.tup [.int n, .str sc, .ref a, .ref ft]) := upd_same
      generalize upd H5 t6 (.tup [.int n, .str sc, .ref a, .ref ft]) = H6 at g6 e6
      have g46 := g5.trans g6
      have hl6 := g46 _ _ hl4
      refine ⟨l, _, _, rfl, rfl, hl6, by omega, ?_⟩
      have t7 : TSame H6 (upd H6 l (.lst (zs ++ [.ref t6]))) := TSame.lst hl6
      refine ⟨keep_upd hl (g4.trans g46) _, (t4.trans g46.t).trans t7, by rw [upd_ne nlr.symm]; exact g46 _ _ hr4, _, _, _, rfl, upd_same, ?_⟩
      rw [etk]
      refine paired_app (Paired.mapP hzs fun _ _ z => z.mono (g46.t.trans t7)) (.cons ?_ .nil)
      refine ⟨t6, a, ft, fx, rfl, t7 _ _ e6, t7 _ _ (g46 _ _ k2), t7 _ _ (g6 _ _ hft), ?_⟩
      have efs : shT (p0 ++ [last]) bs = (p0 ++ [last]) :: bs.map fun c => p0 ++ [formW last c] := by
        rw [shT_snoc]
        congr 1
        exact List.map_congr_left fun b _ => by rw [formW_bend]
      show phsR _ (shT (p0 ++ [last]) bs) fx
      rw [efs]
      exact Paired.mapP hfx fun _ _ z => let ⟨c, e, h⟩ := z; ⟨c, e, t7 _ _ (g6 _ _ h)⟩
  · rintro σ' H4 ⟨g4, t4, hr4, zs, u2, u3, rfl, hl4, hzs⟩
    have xl : xs.length = (ordP [0] fo).length := (Paired.length hxs).symm
    rw [xl, List.take_length, ← tls_ordP] at hzs
    have zl : zs.length ≤ 25 := by
      have h1 := Paired.length hzs
      have h2 := (tlO_sub (ordP [0] fo)).length_le
      rw [List.length_map, List.length_map, ordP_len, ← tls_ordP] at h2
      omega
    have tl := Paired.length hzs
    have hN : Paired (NTup H4) zs ((tlsF fo [0]).map (·.1)) := by
      have all : ∀ {ts : List Tl} {zs : List V}, Paired (tpR H4) ts zs → Paired (NTup H4) zs (ts.map (·.1)) := by
        intro ts zs r
        induction r with
        | nil => exact .nil
        | cons h t ih =>
          obtain ⟨a, pp, ft, xs, e, h1, _⟩ := h
          exact .cons ⟨a, _, e, h1⟩ ih
      exact all hzs
    refine ⟨_, rfl, l, zs, _, rfl, SqL.of hl4, hN, tls_nd hD.nd, by rw [List.length_map]; omega, fun r2 js hr2 hp hs => ?_⟩
    have g5 := same_new hr2 (.lst (js.map fun i => zs.getD i .non))
    have jl : ∀ j ∈ js, j < (tlsF fo [0]).length := fun j hj => by
      have := List.mem_range.mp (hp.mem_iff.mp hj)
      rwa [List.length_map] at this
    refine q r2 (js.map fun i => (tlsF fo [0]).getD i tl0) _ _ (g4.trans g5) (g4.free hr2) upd_same (Paired.mapP (paired_pick tl0 V.non hzs jl) fun _ _ z => z.mono g5.t) ?_ ?_
    · have p2 := hp.map fun i => (tlsF fo [0]).getD i tl0
      rw [List.length_map, range_getD] at p2
      exact p2
    · rw [List.map_map]
      have e : (js.map fun i => ((tlsF fo [0]).map (·.1)).getD i 0) = js.map ((fun t : Tl => t.1) ∘ fun i => (tlsF fo [0]).getD i tl0) := List.map_congr_left fun i _ => getD_map (fun t : Tl => t.1) tl0 (tlsF fo [0]) i
      rw [← e]
      exact hs
end
end D
namespace D
open PySem L2
theorem best_nd (pl : List Int) : ∀ (ts : List Tl) (B : Best), (keysA B).Nodup → (keysA (ts.foldl (tellB pl) B)).Nodup
  | [], _, h => h
  | t :: ts, B, h => by
    rw [List.foldl_cons]
    refine best_nd pl ts _ ?_
    show (keysA (t.2.2.2.foldl (stepB (forceD t.2.1 t.2.2.1 pl) t.1) B)).Nodup
    generalize t.2.2.2 = fs
    induction fs generalizing B with
    | nil => exact h
    | cons k r ih =>
      rw [List.foldl_cons]
      refine ih _ ?_
      unfold stepB
      split
      · exact keys_put _ _ _ h
      · exact h
theorem tls_scope {ns : List Int} {ws : List Str} {f : F} (h : DocQ ns ws f 12) : ∀ t ∈ tlsF f [0], t.2.1 ∈ scopes4 := fun t ht => by
  rw [tls_ordP] at ht
  obtain ⟨⟨xp, xt⟩, hx, hq⟩ := List.mem_flatMap.mp ht
  have hok := h.ok _ (mem_ord hx)
  cases xt with
  | say m zs => cases hq
  | part m i => cases hq
  | tell m sc ph bs ms =>
    have e := List.mem_singleton.mp (show t ∈ [(m, sc, xp, shT ph bs)] from hq)
    rw [e]
    exact (show TlOk ws sc ph bs ms from hok).1
theorem told_alike {ns : List Int} {ws : List Str} {f : F} {pl : List Int} {ts : List Tl} (h : DocQ ns ws f 12) (p : ts.Perm (tlsF f [0])) (srt : (ts.map (·.1)).Pairwise (· ≤ ·)) : Alike (mapT (·.2) (bestD pl ts)) (winD pl (tlsF f [0])) where
  nt := by rw [keys_mapT]; exact best_nd pl ts [] List.nodup_nil
  nu := by unfold winD; rw [keys_due]; exact best_nd pl _ [] List.nodup_nil
  same := fun k => by
    unfold winD
    rw [look_mapT, look_due]
    exact best_perm (fun t ht => (h.tls.ok t ht).1) p srt k
theorem TlsOk.perm {ts us : List Tl} (h : TlsOk us) (p : ts.Perm us) : TlsOk ts := ⟨by rw [p.length_eq]; exact h.few, fun t ht => h.ok t (p.mem_iff.mp ht)⟩
section
variable {P : Program} {w : World} {K : PySem.W.Frag} {mg : Str → Option Value} {base : Heap} {f : Addr} {fd : FuncData} {CT : Addr}
end
end D
namespace D
open PySem L2
theorem phs_len {H : Hp} : ∀ {L : List (List Str)} {xs : List V}, phsR H L xs → L.length = xs.length
  | _, _, .nil => rfl
  | _, _, .cons _ r => by rw [List.length_cons, List.length_cons, phs_len r]
theorem phs_get {H : Hp} : ∀ {L : List (List Str)} {xs : List V}, phsR H L xs → ∀ {i : Nat} {v : V}, xs[i]? = some v → ∃ l, L[i]? = some l ∧ phR H l v
  | _, _, .nil, i, v, h => by rw [List.getElem?_nil] at h; cases h
  | _, _, .cons a r, 0, v, h => ⟨_, rfl, by cases h; exact a⟩
  | _, _, .cons a r, i + 1, v, h => phs_get r h
section
variable {P : Program} {w : World} {K : PySem.W.Frag} {mg : Str → Option Value} {base : Heap} {f : Addr} {fd : FuncData}
end
end D
namespace D
open PySem L2
structure MachOk (CM : Addr) (MR : Hp → List (List Str) → Addr → Prop) : Prop where
  mono : ∀ {H H' L m}, MR H L m → Same H H' → MR H' L m
  ins : ∀ {H L m}, MR H L m → ∃ dx fs, H m = some (.ins CM dx fs) ∧ fs.lookup ("longest" : Str) = none
def spMake (CM : Addr) (MR : Hp → List (List Str) → Addr → Prop) : Sp := fun vs H Q _ => ∃ (x l dx : Addr) (H0 : Hp) (xs : List V) (L : List (List Str)), vs = [.ref x, .ref l] ∧ H = upd (upd H0 dx (.own x)) x (.ins CM dx []) ∧ H0 x = none ∧ H0 dx = none ∧ dx ≠ x ∧ H0 l = some (.lst xs) ∧ phsR H0 L xs ∧ L.length ≤ 300 ∧ (∀ l ∈ L, 1 ≤ l.length ∧ l.length ≤ 12 ∧ ∀ z ∈ l, Wd z) ∧
  ∀ H' B, Same H0 H' → Same B H' → (∀ b o, B b = some o → H0 b = none ∨ ∃ ys, o = .tup ys) → MR B L x → Q .non H'
def spLong (MR : Hp → List (List Str) → Addr → Prop) : Sp := fun vs H Q _ => ∃ (m wd : Addr) (W : List Str) (L : List (List Str)) (k : Nat), vs = [.ref m, .ref wd, .int k] ∧ MR H L m ∧ H wd = some (.tup (W.map V.str)) ∧ W.length ≤ 200 ∧ k ≤ W.length ∧ (∀ z ∈ W, Wd z) ∧
  ∀ H', Same H H' → Q (.int (dueN W k L : Nat)) H'
end D
namespace D
open PySem L2
abbrev s_minit : Stmt := inClass (top 12) 0
abbrev s_mlong : Stmt := inClass (top 12) 1
def newP (H0 H : Hp) : Hp := fun b => match H0 b with
  | none => H b
  | some (.tup ys) => some (.tup ys)
  | some _ => none
theorem newP_new {H0 H : Hp} {b : Addr} (h : H0 b = none) : newP H0 H b = H b := by unfold newP; rw [h]
theorem newP_same {H0 H : Hp} (g : Same H0 H) : Same (newP H0 H) H := fun b o q => by
  unfold newP at q
  split at q
  · exact q
  · rename_i ys e
    cases q
    exact g _ _ e
  · cases q
theorem newP_is {H0 H : Hp} : ∀ b o, newP H0 H b = some o → H0 b = none ∨ ∃ ys, o = .tup ys := fun b o q => by
  unfold newP at q
  split at q
  · rename_i e
    exact .inl e
  · cases q
    exact .inr ⟨_, rfl⟩
  · cases q
structure TrAt (H : Hp) (st : Addr) (as : List Addr) (T : Trie) : Prop where
  lst : H st = some (.lst (as.map V.ref))
  dks : Paired (fun a kvs => H a = some (.dK kvs)) as T
  nd : as.Nodup
theorem dks_at {F : Addr → List (Key × V) → Prop} : ∀ {as : List Addr} {T : Trie} {i : Nat} {k : List (Key × V)}, Paired F as T → T[i]? = some k → ∃ a, as[i]? = some a ∧ F a k
  | _, _, _, _, .nil, e => by simp at e
  | _, _, 0, _, .cons h _, e => by simp at e; subst e; exact ⟨_, rfl, h⟩
  | _, _, i + 1, k, .cons _ t, e => by
    simp only [List.getElem?_cons_succ] at e
    obtain ⟨b, e', q⟩ := dks_at t e
    exact ⟨b, by simpa using e', q⟩
theorem dks_mem {F : Addr → List (Key × V) → Prop} : ∀ {as : List Addr} {T : Trie} {a : Addr}, Paired F as T → a ∈ as → ∃ k, F a k
  | _, _, _, .nil, e => nomatch e
  | _, _, a, .cons h t, e => by
    rcases List.mem_cons.mp e with e | e
    · subst e; exact ⟨_, h⟩
    · exact dks_mem t e
theorem dks_out {H : Hp} {a : Addr} {o : HO} : ∀ {as : List Addr} {T : Trie}, Paired (fun a kvs => H a = some (.dK kvs)) as T → a ∉ as → Paired (fun b kvs => upd H a o b = some (.dK kvs)) as T
  | _, _, .nil, _ => .nil
  | _, _, .cons h t, n => .cons (by rw [upd_ne (fun e => n (by rw [e]; exact List.mem_cons_self))]; exact h) (dks_out t fun m => n (List.mem_cons_of_mem _ m))
theorem dks_set {H : Hp} {a : Addr} {k' : List (Key × V)} : ∀ {as : List Addr} {T : Trie} {i : Nat}, Paired (fun a kvs => H a = some (.dK kvs)) as T → as.Nodup → as[i]? = some a → Paired (fun b kvs => upd H a (.dK k') b = some (.dK kvs)) as (T.set i k')
  | _, _, _, .nil, _, e => by simp at e
  | b :: r, _, 0, .cons h t, nd, e => by
    have e : b = a := by simpa using e
    subst e
    exact .cons upd_same (dks_out t (List.nodup_cons.mp nd).1)
  | b :: r, _, i + 1, .cons h t, nd, e => by
    have e : r[i]? = some a := by simpa using e
    have m := List.mem_of_getElem? e
    have n := (List.nodup_cons.mp nd).1
    exact .cons (by rw [upd_ne (fun z => n (by rw [z]; exact m))]; exact h) (dks_set t (List.nodup_cons.mp nd).2 e)
theorem TrAt.mono {H H' : Hp} {st : Addr} {as : List Addr} {T : Trie} (h : TrAt H st as T) (g : Same H H') : TrAt H' st as T := ⟨g _ _ h.lst, Paired.mapP h.dks fun _ _ z => g _ _ z, h.nd⟩
theorem TrAt.ne {H : Hp} {st : Addr} {as : List Addr} {T : Trie} (h : TrAt H st as T) : st ∉ as := fun m => by
  obtain ⟨k, e⟩ := dks_mem h.dks m
  rw [h.lst] at e
  cases e
theorem TrAt.len {H : Hp} {st : Addr} {as : List Addr} {T : Trie} (h : TrAt H st as T) : as.length = T.length := Paired.length h.dks
theorem TrAt.out {H : Hp} {st a : Addr} {as : List Addr} {T : Trie} {o : HO} (h : TrAt H st as T) (n1 : a ≠ st) (n2 : a ∉ as) : TrAt (upd H a o) st as T := ⟨by rw [upd_ne n1.symm]; exact h.lst, dks_out h.dks n2, h.nd⟩
theorem TrAt.add {H : Hp} {st a d : Addr} {as : List Addr} {T : Trie} {s : Nat} {k' : List (Key × V)} (h : TrAt H st as T) (ha : as[s]? = some a) (hd : upd H a (.dK k') d = none) :
    TrAt (upd (upd (upd H a (.dK k')) d (.dK [])) st (.lst (as.map V.ref ++ [.ref d]))) st (as ++ [d]) (T.set s k' ++ [[]]) := by
  have p1 := dks_set (k' := k') h.dks h.nd ha
  have nd : d ∉ as := fun m => by
    obtain ⟨k, e⟩ := dks_mem p1 m
    rw [hd] at e
    cases e
  have nst : st ≠ a := fun e => h.ne (by rw [e]; exact List.mem_of_getElem? ha)
  have nds : d ≠ st := fun e => by
    rw [e, upd_ne nst, h.lst] at hd
    cases hd
  refine ⟨by rw [upd_same, List.map_append] <;> rfl, ?_, ?_⟩
  · exact Paired.snoc (dks_out (dks_out p1 nd) h.ne) (by rw [upd_ne nds, upd_same])
  · rw [List.nodup_append]
    exact ⟨h.nd, by simp, fun x hx y hy e => nd (by rw [← List.mem_singleton.mp hy, ← e]; exact hx)⟩
theorem same_add {B H : Hp} {a : Addr} {o : HO} (g : Same B H) (h : H a = some o) : Same (upd B a o) H := fun b u q => by
  by_cases e : b = a
  · subst e
    rw [upd_same] at q
    cases q
    exact h
  · rw [upd_ne e] at q
    exact g _ _ q
theorem none_of {B H : Hp} {a : Addr} (g : Same B H) (h : H a = none) : B a = none := by
  cases e : B a with
  | none => rfl
  | some o => rw [g _ _ e] at h; cases h
def spSB : Sp := fun vs H Q _ => ∃ (st p : Addr) (B : Hp) (as : List Addr) (T : Trie) (ps : List (List Str)) (l : List Str), vs = [.ref st, .ref p] ∧ Same B H ∧ B st = none ∧ (∀ a ∈ as, B a = none) ∧ TrAt H st as T ∧ TrI T ps ∧ B p = some (.tup (l.map V.str)) ∧ l.length ≤ 12 ∧ ps.length ≤ 4000 ∧
  ∀ H' as' T' e s, Same B H' → (∀ a ∈ as', B a = none) → TrAt H' st as' T' → TrI T' (ps ++ e) → (ps ++ e)[s]? = some l → e.length ≤ l.length → Q (.int (s : Nat)) H'
section
variable {P : Program} {w : World} {K : PySem.W.Frag} {mg : Str → Option Value} {base : Heap} {f : Addr} {fd : FuncData} {CM : Addr}
theorem scSB : FnScope ["steps", "phrase", "state", "word"] ["steps", "phrase"] (defScope s_state_behind) := ⟨rfl, rfl, rfl, by decide +kernel, rfl, by decide +kernel, by decide +kernel⟩
set_option maxHeartbeats 4000000 in
theorem ok_sb (F : Fun K "state_behind" "state_behind" s_state_behind f fd) (T : Nm mg) : FnOk P w K mg base CX0 1 f fd ["steps", "phrase"] spSB := by
  refine F.ok scSB (fun vs H Q E h => ?_) (fun cdv A outer s H vs Q E hr h => ?_)
  · obtain ⟨st, p, B, as, T0, ps, l, rfl, _⟩ := h
    rfl
  obtain ⟨st, p, B, as, T0, ps, l, rfl, gB, nst, nas, ht, hti, hp, hl, hT, q⟩ := h
  have hu1 : (A.deeper (PyProof.Rows.envOfC "state_behind" (defScope s_state_behind) s.heap.objs.size f cdv)).units + 1 < cLine := by have := hr.un; omega
  refine ⟨_, pss_cons (ps_set (i := 2) scSB.nd rfl (Or.inl rfl) pe_int)
    (pss_cons (ps_for PassesOwn.never rfl (pi_tup (pv 1)) (pg_name (i := 3) scSB.nd rfl (Or.inl rfl))
      (pss_cons (ps_if (pt_cmp (pc_dnotin hu1 (pv 3) (pe_ix ix_list (pv 0) (pv 2) (fun _ _ => rfl))))
        (pss_cons (ps_dput hu1 (pe_ix ix_list (pv 0) (pv 2) (fun _ _ => rfl)) (pv 3) (pe_callB call_len_seq rfl T.len PySem.boot_len (pa_cons (pv 0) pa_nil)) rfl)
        (pss_one (ps_expr (pe_bm PySem.F.plainAttrs_list PySem.F.slot_list_append PySem.F.type_list_append mt_append (pv 0) (pa_cons pe_dnewK pa_nil))))) pss_nil)
      (pss_one (ps_set (i := 2) scSB.nd rfl (Or.inl rfl) (pe_dget hu1 (pe_ix ix_list (pv 0) (pv 2) (fun _ _ => rfl)) (pv 3) (fun _ _ => rfl))))))
    (pss_one (ps_ret (pv 2)))), ?_⟩
  have hb := big
  refine ⟨_, rfl, p, rfl, ⟨_, SqT.of (gB _ _ hp)⟩, ?_⟩
  refine for_tup (K := K) (a := p) (xs := l.map V.str) (fun i σ' H' => ∃ (as : List Addr) (T : Trie) (e : List (List Str)) (s : Nat) (u : Option V), Same B H' ∧ (∀ a ∈ as, B a = none) ∧ TrAt H' st as T ∧ TrI T (ps ++ e) ∧ (ps ++ e)[s]? = some (l.take i) ∧ e.length ≤ i ∧ σ' = [some (.ref st), some (.ref p), some (.int (s : Nat)), u]) ?_ (fun i σ' H' _ h => by obtain ⟨_, _, _, _, _, g, _⟩ := h; exact SqT.of (g _ _ hp)) ?_ ?_
  · exact ⟨as, T0, [], 0, none, gB, nas, ht, by rw [List.append_nil]; exact hti, by rw [List.append_nil]; exact hti.zero, Nat.le_refl _, rfl⟩
  · rintro i y σ' H1 hi ⟨as, T1, e, s, u, g, na, ht, ti, hs, el, rfl⟩
    obtain ⟨w, ew, rfl⟩ : ∃ w, l[i]? = some w ∧ y = .str w := by
      rw [List.getElem?_map] at hi
      obtain ⟨w, a, b⟩ := Option.map_eq_some_iff.mp hi
      exact ⟨w, a, b.symm⟩
    have il := (List.getElem?_eq_some_iff.mp ew).1
    have etk : l.take (i + 1) = l.take i ++ [w] := by rw [List.take_add_one, ew]; rfl
    have sl := (List.getElem?_eq_some_iff.mp hs).1
    have lenT : T1.length = ps.length + e.length := by rw [ti.len, List.length_append]
    have aslen := ht.len
    obtain ⟨kvs, hk⟩ : ∃ kvs, T1[s]? = some kvs := ⟨T1[s]'(by rw [ti.len]; exact sl), List.getElem?_eq_getElem _⟩
    obtain ⟨a, ea, ha⟩ := dks_at ht.dks hk
    have eat : atI (as.map V.ref) ((s : Nat) : Int) = some (.ref a) := atI_nat (by rw [List.getElem?_map, ea]; rfl)
    refine ⟨_, rfl, _, rfl, _, rfl, st, _, _, _, rfl, rfl, SqL.of ht.lst, eat, a, _, rfl, DGet.k (k := .inr w) ha, _, rfl, ?_⟩
    refine ite2 (fun z => ?_) (fun z => ?_)
    · have hn : valV kvs (.inr w) = none := by
        cases e : valV kvs (.inr w) with
        | none => rfl
        | some v => rw [e] at z; cases z
      have ksz := ti.sz kvs (List.mem_of_getElem? hk)
      refine ⟨_, rfl, st, _, rfl, .inl (SqL.of ht.lst), _, rfl, _, rfl, st, _, _, _, rfl, rfl, SqL.of ht.lst, eat, _, rfl, a, _, rfl, DPut.k (k := .inr w) ha (by omega), ?_⟩
      have em : ((as.map V.ref).length : Nat) = T1.length := by rw [List.length_map, aslen]
      rw [em]
      have naa : B a = none := na a (List.mem_of_getElem? ea)
      have g2 : Same B (upd H1 a (.dK (putK kvs (.inr w) (.int T1.length)))) := keep_upd naa g _
      have nsa : st ≠ a := fun e => ht.ne (by rw [e]; exact List.mem_of_getElem? ea)
      have ty2 : upd H1 a (.dK (putK kvs (.inr w) (.int T1.length))) st = some (.lst (as.map V.ref)) := by rw [upd_ne nsa]; exact ht.lst
      refine ⟨_, rfl, .inl ⟨rfl, _, SqL.of ty2⟩, fun d hd => ?_⟩
      have nda : d ≠ st := fun e => by
        rw [e, upd_ne nsa, ht.lst] at hd
        cases hd
      refine ⟨st, _, _, rfl, rfl, by rw [upd_ne nda.symm, upd_ne nsa]; exact ht.lst, by rw [List.length_map]; omega, ?_⟩
      have h3 := ht.add ea hd
      have g3 : Same B (upd (upd (upd H1 a (.dK (putK kvs (.inr w) (.int T1.length)))) d (.dK [])) st (.lst (as.map V.ref ++ [.ref d]))) := keep_upd nst (keep_upd (none_of g2 hd) g2 _) _
      generalize upd (upd (upd H1 a (.dK (putK kvs (.inr w) (.int T1.length)))) d (.dK [])) st (.lst (as.map V.ref ++ [.ref d])) = H3 at h3 g3
      have ti3 := ti.add hk hs hn
      have sT : s < T1.length := (List.getElem?_eq_some_iff.mp hk).1
      have hk3 : (T1.set s (putK kvs (.inr w) (.int T1.length)) ++ [[]])[s]? = some (putK kvs (.inr w) (.int T1.length)) := by
        rw [List.getElem?_append_left (by rw [List.length_set]; exact sT), List.getElem?_set, if_pos rfl, if_pos sT]
      obtain ⟨a3, ea3, ha3⟩ := dks_at h3.dks hk3
      have hv : valV (putK kvs (.inr w) (.int T1.length)) (.inr w) = some (.int T1.length) := by rw [valV_put, if_pos rfl]
      have dg := DGet.k (k := .inr w) ha3
      rw [hv] at dg
      refine ⟨_, rfl, _, rfl, st, _, _, _, rfl, rfl, SqL.of h3.lst, atI_nat (by rw [List.getElem?_map, ea3]; rfl), _, rfl, a3, _, rfl, dg, ?_⟩
      refine ⟨as ++ [d], _, e ++ [l.take i ++ [w]], T1.length, _, g3, fun b hb => ?_, h3, by rw [← List.append_assoc]; exact ti3, ?_, by rw [List.length_append]; exact Nat.succ_le_succ el, rfl⟩
      · rcases List.mem_append.mp hb with m | m
        · exact na b m
        · rw [List.mem_singleton.mp m]; exact none_of g2 hd
      · rw [← List.append_assoc, etk, ti.len]
        simp
    · obtain ⟨v, hv⟩ : ∃ v, valV kvs (.inr w) = some v := by
        cases e : valV kvs (.inr w) with
        | none => rw [e] at z; exact absurd rfl z
        | some v => exact ⟨v, rfl⟩
      obtain ⟨n, rfl, hn⟩ := ti.yes hk hs hv
      have dg := DGet.k (k := .inr w) ha
      rw [hv] at dg
      refine ⟨_, rfl, _, rfl, st, _, _, _, rfl, rfl, SqL.of ht.lst, eat, _, rfl, a, _, rfl, dg, ?_⟩
      exact ⟨as, T1, e, n, _, g, na, ht, ti, by rw [etk]; exact hn, Nat.le_succ_of_le el, rfl⟩
  · rintro σ' H1 ⟨as, T1, e, s, u, g, na, ht, ti, hs, el, rfl⟩
    rw [List.length_map] at hs el
    rw [List.take_length] at hs
    exact ⟨_, rfl, q H1 as T1 e s g na ht ti hs el⟩
end
end D
namespace D
open PySem L2
def MR (CM : Addr) (H : Hp) (L : List (List Str)) (m : Addr) : Prop := ∃ (dx st en : Addr) (as : List Addr) (T : Trie) (ps : List (List Str)) (E : List (Key × V)), H m = some (.ins CM dx [("steps", .ref st), ("ends", .ref en)]) ∧ TrAt H st as T ∧ TrI T ps ∧ H en = some (.dK E) ∧ EndsOk E ps L
theorem machOk (CM : Addr) : MachOk CM (MR CM) where
  mono := fun ⟨dx, st, en, as, T, ps, E, h1, h2, h3, h4, h5⟩ g => ⟨dx, st, en, as, T, ps, E, g _ _ h1, h2.mono g, h3, g _ _ h4, h5⟩
  ins := fun ⟨dx, st, en, as, T, ps, E, h1, _⟩ => ⟨dx, _, h1, by rfl⟩
section
variable {P : Program} {w : World} {K : PySem.W.Frag} {mg : Str → Option Value} {base : Heap} {f : Addr} {fd : FuncData} {CM : Addr}
theorem scMI : FnScope ["self", "phrases", "phrase"] ["self", "phrases"] (defScope s_minit) := ⟨rfl, rfl, rfl, by decide +kernel, rfl, by decide +kernel, by decide +kernel⟩
set_option maxHeartbeats 4000000 in
theorem ok_minit (F : Fun K "__init__" "Machine.__init__" s_minit f fd) (GS : Def P w K mg base CX0 1 "state_behind" ["steps", "phrase"] spSB) (c : Cls K CM) (n1 : NoAttr K CM "steps") (n2 : NoAttr K CM "ends") : FnOk P w K mg base CX0 20 f fd ["self", "phrases"] (spMake CM (MR CM)) := by
  refine F.ok scMI (fun vs H Q E h => ?_) (fun cdv A outer s H vs Q E hr h => ?_)
  · obtain ⟨x, l, dx, H0, xs, L, rfl, _⟩ := h
    rfl
  obtain ⟨x, l, dx, H0, xs, L, rfl, rfl, hx, hdx, ne, hl, hL, hLl, hok, q⟩ := h
  have hu1 : (A.deeper (PyProof.Rows.envOfC "Machine.__init__" (defScope s_minit) s.heap.objs.size f cdv)).units + 1 < cLine := by have := hr.un; omega
  refine ⟨_, pss_cons (ps_fld (pv 0) (pe_lst (pa_cons pe_dnewK pa_nil)) (by with_unfolding_all rfl))
    (pss_cons (ps_fld (pv 0) pe_dnewK (by with_unfolding_all rfl))
    (pss_one (ps_for PassesOwn.never rfl (pi_list (pv 1)) (pg_name (i := 2) scMI.nd rfl (Or.inl rfl))
      (pss_one (ps_dput hu1 (pe_fld (pv 0) rfl) (pe_def GS (hr.mono (by decide)) (pa_cons (pe_fld (pv 0) rfl) (pa_cons (pv 2) pa_nil))) pe_bl rfl))))), ?_⟩
  have hb := big
  have gd : Same H0 (upd H0 dx (.own x)) := same_new hdx _
  have xd : upd H0 dx (.own x) x = none := by rw [upd_ne (Ne.symm ne)]; exact hx
  generalize upd H0 dx (.own x) = Bd at gd xd
  have gx : Same Bd (upd Bd x (.ins CM dx [])) := same_new xd _
  refine fun d hd => ⟨(by show 1 ≤ sizeLine; decide), fun st hst => ?_⟩
  have bd := none_of gx hd
  have nxd : x ≠ d := fun e => by rw [← e, upd_same] at hd; cases hd
  have g2 : Same Bd (upd (upd Bd x (.ins CM dx [])) d (.dK [])) := keep_upd bd gx _
  have bst := none_of g2 hst
  have nxs : x ≠ st := fun e => by rw [← e, upd_ne nxd, upd_same] at hst; cases hst
  have nds : d ≠ st := fun e => by rw [← e, upd_same] at hst; cases hst
  have g3 : Same Bd (upd (upd (upd Bd x (.ins CM dx [])) d (.dK [])) st (.lst [.ref d])) := keep_upd bst g2 _
  have h3x : upd (upd (upd Bd x (.ins CM dx [])) d (.dK [])) st (.lst [.ref d]) x = some (.ins CM dx []) := by rw [upd_ne nxs, upd_ne nxd, upd_same]
  have h3d : upd (upd (upd Bd x (.ins CM dx [])) d (.dK [])) st (.lst [.ref d]) d = some (.dK []) := by rw [upd_ne nds, upd_same]
  have h3s : upd (upd (upd Bd x (.ins CM dx [])) d (.dK [])) st (.lst [.ref d]) st = some (.lst [.ref d]) := upd_same
  generalize upd (upd (upd Bd x (.ins CM dx [])) d (.dK [])) st (.lst [.ref d]) = H3 at g3 h3x h3d h3s
  refine ⟨_, rfl, x, CM, dx, [], rfl, h3x, c, n1, by decide, ?_⟩
  refine fun en hen => ?_
  have g4 : Same Bd (upd H3 x (.ins CM dx (putF "steps" (.ref st) []))) := keep_upd xd g3 _
  have ben := none_of g4 hen
  have nxe : x ≠ en := fun e => by rw [← e, upd_same] at hen; cases hen
  have nde : d ≠ en := fun e => by rw [← e, upd_ne nxd.symm, h3d] at hen; cases hen
  have nse : st ≠ en := fun e => by rw [← e, upd_ne nxs.symm, h3s] at hen; cases hen
  refine ⟨_, rfl, x, CM, dx, [("steps", .ref st)], rfl, by rw [upd_ne nxe, upd_same] <;> rfl, c, n2, (by show 1 < 1000; decide), ?_⟩
  have g5 : Same Bd (upd (upd (upd H3 x (.ins CM dx (putF "steps" (.ref st) []))) en (.dK [])) x (.ins CM dx (putF "ends" (.ref en) [("steps", .ref st)]))) := keep_upd xd (keep_upd ben g4 _) _
  have h5x : upd (upd (upd H3 x (.ins CM dx (putF "steps" (.ref st) []))) en (.dK [])) x (.ins CM dx (putF "ends" (.ref en) [("steps", .ref st)])) x = some (.ins CM dx [("steps", .ref st), ("ends", .ref en)]) := upd_same
  have h5e : upd (upd (upd H3 x (.ins CM dx (putF "steps" (.ref st) []))) en (.dK [])) x (.ins CM dx (putF "ends" (.ref en) [("steps", .ref st)])) en = some (.dK []) := by rw [upd_ne nxe.symm, upd_same]
  have h5d : upd (upd (upd H3 x (.ins CM dx (putF "steps" (.ref st) []))) en (.dK [])) x (.ins CM dx (putF "ends" (.ref en) [("steps", .ref st)])) d = some (.dK []) := by rw [upd_ne nxd.symm, upd_ne nde, upd_ne nxd.symm]; exact h3d
  have h5s : upd (upd (upd H3 x (.ins CM dx (putF "steps" (.ref st) []))) en (.dK [])) x (.ins CM dx (putF "ends" (.ref en) [("steps", .ref st)])) st = some (.lst [.ref d]) := by rw [upd_ne nxs.symm, upd_ne nse, upd_ne nxs.symm]; exact h3s
  generalize upd (upd (upd H3 x (.ins CM dx (putF "steps" (.ref st) []))) en (.dK [])) x (.ins CM dx (putF "ends" (.ref en) [("steps", .ref st)])) = H5 at g5 h5x h5e h5d h5s
  have glst : ∀ H', Same Bd H' → SqL K H' l xs := fun H' g => SqL.of (g _ _ (gd _ _ hl))
  refine ⟨_, rfl, l, rfl, ⟨_, glst _ g5⟩, ?_⟩
  refine for_list (K := K) (a := l) (xs := xs) (fun i σ' H' => ∃ (as : List Addr) (T : Trie) (ps : List (List Str)) (E : List (Key × V)) (u : Option V), Same Bd H' ∧ H' x = some (.ins CM dx [("steps", .ref st), ("ends", .ref en)]) ∧ H' en = some (.dK E) ∧ (∀ a ∈ as, Bd a = none) ∧ en ∉ as ∧ TrAt H' st as T ∧ TrI T ps ∧ EndsOk E ps (L.take i) ∧ ps.length ≤ 1 + 12 * i ∧ E.length ≤ i ∧ σ' = [some (.ref x), some (.ref l), u]) ?_ (fun i σ' H' _ h => by obtain ⟨_, _, _, _, _, g, _⟩ := h; exact glst _ g) ?_ ?_
  · refine ⟨[d], [[]], [[]], [], none, g5, h5x, h5e, fun a ha => by rw [List.mem_singleton.mp ha]; exact bd, fun m => nde (List.mem_singleton.mp m).symm, ⟨h5s, .cons h5d .nil, by simp⟩, TrI.new, EndsOk.new, by decide, Nat.le_refl _, rfl⟩
  · rintro i y σ' H6 hi ⟨as, T, ps, E, u, g, hx6, he6, na, nea, ht, ti, eo, pl, El, rfl⟩
    obtain ⟨l1, el, p, ep, hp⟩ := phs_get hL hi
    subst ep
    have il : i < L.length := (List.getElem?_eq_some_iff.mp el).1
    have bp : Bd p = some (.tup (l1.map V.str)) := gd _ _ hp
    have nxp : p ≠ x := fun e => by rw [e, xd] at bp; cases bp
    have nep : p ≠ en := fun e => by rw [e, ben] at bp; cases bp
    have nax : ∀ a ∈ as, a ≠ x := fun a ha e => by
      obtain ⟨k, z⟩ := dks_mem ht.dks ha
      rw [e, hx6] at z
      cases z
    have gB : Same (upd (upd Bd x (.ins CM dx [("steps", .ref st), ("ends", .ref en)])) en (.dK E)) H6 := same_add (same_add g hx6) he6
    refine ⟨_, rfl, x, CM, dx, _, _, rfl, hx6, c, n2, rfl, _, rfl, x, CM, dx, _, _, rfl, hx6, c, n1, rfl, _, rfl, st, p, _, as, T, ps, l1, rfl, gB, by rw [upd_ne nse, upd_ne nxs.symm]; exact bst, fun a ha => by rw [upd_ne (fun e => nea (by rw [← e]; exact ha)), upd_ne (nax a ha)]; exact na a ha, ht, ti, by rw [upd_ne nep, upd_ne nxp]; exact bp, (hok l1 (List.mem_of_getElem? el)).2.1, by omega, fun H7 as7 T7 e7 s7 g7 na7 ht7 ti7 hs7 el7 => ?_⟩
    have he7 : H7 en = some (.dK E) := g7 _ _ upd_same
    have hx7 : H7 x = some (.ins CM dx [("steps", .ref st), ("ends", .ref en)]) := g7 _ _ (by rw [upd_ne nxe, upd_same])
    have gb7 : Same Bd H7 := (keep_upd ben (same_new xd _) _).trans g7
    have ne7 : en ∉ as7 := fun m => by
      have := na7 en m
      rw [upd_same] at this
      cases this
    refine ⟨en, _, rfl, DPut.k (k := .inl (s7 : Int)) he7 (by omega), ?_⟩
    have l12 := (hok l1 (List.mem_of_getElem? el)).2.1
    refine ⟨as7, T7, ps ++ e7, _, _, keep_upd ben gb7 _, by rw [upd_ne nxe]; exact hx7, upd_same, fun a ha => ?_, ne7, ht7.out nse.symm ne7, ti7, ?_, by rw [List.length_append]; omega, ?_, rfl⟩
    · exact none_of (keep_upd ben (same_new xd _) _) (na7 a ha)
    · rw [List.take_add_one, el]
      exact eo.add ti7 hs7
    · have := length_putK E (.inl (s7 : Int)) (.bl true)
      omega
  · rintro σ' H6 ⟨as, T, ps, E, u, g, hx6, he6, na, nea, ht, ti, eo, pl, El, rfl⟩
    rw [← phs_len hL, List.take_length] at eo
    have g06 := gd.trans g
    have n0 : ∀ {a}, Bd a = none → H0 a = none := fun h => none_of gd h
    refine q H6 _ g06 (newP_same g06) newP_is ⟨dx, st, en, as, T, ps, E, by rw [newP_new hx]; exact hx6, ⟨by rw [newP_new (n0 bst)]; exact ht.lst, ?_, ht.nd⟩, ti, by rw [newP_new (n0 ben)]; exact he6, eo⟩
    have all : ∀ {as : List Addr} {T : Trie}, Paired (fun a kvs => H6 a = some (.dK kvs)) as T → (∀ a ∈ as, Bd a = none) → Paired (fun a kvs => newP H0 H6 a = some (.dK kvs)) as T := by
      intro as T r
      induction r with
      | nil => intro _; exact .nil
      | cons h t ih => intro hn; exact .cons (by rw [newP_new (n0 (hn _ List.mem_cons_self))]; exact h) (ih fun a ha => hn a (List.mem_cons_of_mem _ ha))
    exact all ht.dks na
def LBest (W : List Str) (k : Nat) (L : List (List Str)) (i m : Nat) : Prop := (m = 0 ∨ ∃ l ∈ L, stands W k l = true ∧ l.length = m) ∧ ∀ l ∈ L, stands W k l = true → l.length ≤ i → l.length ≤ m
theorem due_fold (W : List Str) (k : Nat) : ∀ (L : List (List Str)) (m0 : Nat), (L.foldl (fun m l => if stands W k l = true then (if l.length > m then l.length else m) else m) m0 = m0 ∨ ∃ l ∈ L, stands W k l = true ∧ l.length = L.foldl (fun m l => if stands W k l = true then (if l.length > m then l.length else m) else m) m0) ∧ m0 ≤ L.foldl (fun m l => if stands W k l = true then (if l.length > m then l.length else m) else m) m0 ∧ ∀ l ∈ L, stands W k l = true → l.length ≤ L.foldl (fun m l => if stands W k l = true then (if l.length > m then l.length else m) else m) m0
  | [], m0 => ⟨.inl rfl, Nat.le_refl _, fun _ h => nomatch h⟩
  | x :: r, m0 => by
    obtain ⟨h1, h2, h3⟩ := due_fold W k r (if stands W k x = true then (if x.length > m0 then x.length else m0) else m0)
    rw [List.foldl_cons]
    generalize r.foldl (fun m l => if stands W k l = true then (if l.length > m then l.length else m) else m) (if stands W k x = true then (if x.length > m0 then x.length else m0) else m0) = R at h1 h2 h3
    refine ⟨?_, ?_, fun l hl hs => ?_⟩
    · rcases h1 with e | ⟨l, hl, a, b⟩
      · by_cases z : stands W k x = true
        · rw [if_pos z] at e
          by_cases y : x.length > m0
          · rw [if_pos y] at e
            exact .inr ⟨x, List.mem_cons_self, z, e.symm⟩
          · rw [if_neg y] at e
            exact .inl e
        · rw [if_neg z] at e
          exact .inl e
      · exact .inr ⟨l, List.mem_cons_of_mem _ hl, a, b⟩
    · split at h2
      · split at h2 <;> omega
      · exact h2
    · rcases List.mem_cons.mp hl with e | m
      · subst e
        rw [if_pos hs] at h2
        split at h2 <;> omega
      · exact h3 l m hs
theorem due_best {W : List Str} {k m : Nat} {L : List (List Str)} (h : LBest W k L (W.length - k) m) : dueN W k L = m := by
  obtain ⟨h1, _, h3⟩ := due_fold W k L 0
  have e : dueN W k L = L.foldl (fun m l => if stands W k l = true then (if l.length > m then l.length else m) else m) 0 := rfl
  rw [← e] at h1 h3
  have len : ∀ l, stands W k l = true → l.length ≤ W.length - k := fun l hs => by
    have := congrArg List.length (of_decide_eq_true hs)
    rw [List.length_take, List.length_drop] at this
    omega
  have le1 : dueN W k L ≤ m := by
    rcases h1 with z | ⟨l, hl, a, b⟩
    · omega
    · rw [← b]; exact h.2 l hl a (len l a)
  have le2 : m ≤ dueN W k L := by
    rcases h.1 with z | ⟨l, hl, a, b⟩
    · omega
    · rw [← b]; exact h3 l hl a
  omega
theorem scML : FnScope ["self", "words", "at", "state", "length", "place"] ["self", "words", "at"] (defScope s_mlong) := ⟨rfl, rfl, rfl, by decide +kernel, rfl, by decide +kernel, by decide +kernel⟩
set_option maxHeartbeats 4000000 in
theorem ok_mlong (F : Fun K "longest" "Machine.longest" s_mlong f fd) (T : Nm mg) (c : Cls K CM) (n1 : NoAttr K CM "steps") (n2 : NoAttr K CM "ends") : FnOk P w K mg base CX0 20 f fd ["self", "words", "at"] (spLong (MR CM)) := by
  refine F.ok scML (fun vs H Q E h => ?_) (fun cdv A outer s H vs Q E hr h => ?_)
  · obtain ⟨m, wd, W, L, k, rfl, _⟩ := h
    rfl
  obtain ⟨m, wd, W, L, k, rfl, ⟨dx, st, en, as, T0, ps, E0, hm, ht, ti, he, eo⟩, hW, hWl, hk, hWd, q⟩ := h
  have hu1 : (A.deeper (PyProof.Rows.envOfC "Machine.longest" (defScope s_mlong) s.heap.objs.size f cdv)).units + 1 < cLine := by have := hr.un; omega
  refine ⟨_, pss_cons (ps_if (pt_cmpR op_lt (pv 2) pe_int (nomark _)) (pss_one (ps_ret pe_int)) pss_nil)
    (pss_cons (ps_set (i := 3) scML.nd rfl (Or.inl rfl) pe_int)
    (pss_cons (ps_set (i := 4) scML.nd rfl (Or.inl rfl) pe_int)
    (pss_cons (ps_for PassesOwn.never rfl (pi_range2 rfl T.range (pa_cons (pv 2) (pa_cons (pe_callB call_len_seq rfl T.len PySem.boot_len (pa_cons (pv 1) pa_nil)) pa_nil))) (pg_name (i := 5) scML.nd rfl (Or.inl rfl))
      (pss_cons (ps_if (pt_cmp (pc_dnotin hu1 (pe_ix ix_tup (pv 1) (pv 5) (fun _ _ => rfl)) (pe_ix ix_list (pe_fld (pv 0) rfl) (pv 3) (fun _ _ => rfl)))) (pss_one (ps_ret (pv 4))) pss_nil)
      (pss_cons (ps_set (i := 3) scML.nd rfl (Or.inl rfl) (pe_dget hu1 (pe_ix ix_list (pe_fld (pv 0) rfl) (pv 3) (fun _ _ => rfl)) (pe_ix ix_tup (pv 1) (pv 5) (fun _ _ => rfl)) (fun _ _ => rfl)))
      (pss_one (ps_if (pt_cmp (pc_din hu1 (pv 3) (pe_fld (pv 0) rfl))) (pss_one (ps_set (i := 4) scML.nd rfl (Or.inl rfl) (pe_op op_add (pe_op op_sub (pv 5) (pv 2)) pe_int))) pss_nil)))))
    (pss_one (ps_ret (pv 4)))))), ?_⟩
  have hb := big
  refine ⟨_, rfl, _, _, rfl, rfl, _, rfl, ?_⟩
  refine ite2 (fun z => absurd (of_decide_eq_true z) (by omega)) (fun _ => ?_)
  refine ⟨_, rfl, _, rfl, wd, _, rfl, .inr (SqT.of hW), ?_⟩
  have hlW : (W.map V.str).length = W.length := List.length_map _
  refine ⟨(k : Int), (((W.map V.str).length : Nat) : Int), rfl, ⟨by omega, by omega, by omega, by omega⟩, ?_⟩
  refine for_range (lo := (k : Int)) (n := ((((W.map V.str).length : Nat) : Int) - (k : Int)).toNat) (fun i σ' H' => Same H H' ∧ ∃ (s b : Nat) (u5 : Option V), ps[s]? = some ((W.drop k).take i) ∧ LBest W k L i b ∧ σ' = [some (.ref m), some (.ref wd), some (.int (k : Nat)), some (.int (s : Nat)), some (.int (b : Nat)), u5]) ?_ ?_ ?_
  · exact ⟨Same.refl _, 0, 0, none, ti.zero, ⟨.inl rfl, fun l hl hs h0 => h0⟩, rfl⟩
  · rintro i σ' H1 hi ⟨g, s, b, u5, hs, hbest, rfl⟩
    have ik : k + i < W.length := by omega
    have ew : W[k + i]? = some W[k + i] := List.getElem?_eq_getElem ik
    generalize W[k + i] = w at ew
    have etk : (W.drop k).take (i + 1) = (W.drop k).take i ++ [w] := by rw [List.take_add_one, List.getElem?_drop, ew]; rfl
    have ltk : ((W.drop k).take (i + 1)).length = i + 1 := by rw [List.length_take, List.length_drop]; omega
    have ewat : atI (W.map V.str) ((k : Int) + (i : Int)) = some (.str w) := by
      rw [show (k : Int) + (i : Int) = ((k + i : Nat) : Int) by omega]
      exact atI_nat (by rw [List.getElem?_map, ew]; rfl)
    have hm1 := g _ _ hm
    have ht1 := ht.mono g
    have hW1 := SqT.of (K := K) (g _ _ hW)
    have sl := (List.getElem?_eq_some_iff.mp hs).1
    obtain ⟨kvs, hkv⟩ : ∃ kvs, T0[s]? = some kvs := ⟨T0[s]'(by rw [ti.len]; exact sl), List.getElem?_eq_getElem _⟩
    obtain ⟨a, ea, ha⟩ := dks_at ht1.dks hkv
    have eat : atI (as.map V.ref) ((s : Nat) : Int) = some (.ref a) := atI_nat (by rw [List.getElem?_map, ea]; rfl)
    refine ⟨_, rfl, _, rfl, wd, _, _, _, rfl, rfl, hW1, ewat, _, rfl, m, CM, dx, _, _, rfl, hm1, c, n1, rfl, _, rfl, st, _, _, _, rfl, rfl, SqL.of ht1.lst, eat, a, _, rfl, DGet.k (k := .inr w) ha, _, rfl, ?_⟩
    refine ite2 (fun z => ?_) (fun z => ?_)
    · have hn : valV kvs (.inr w) = none := by
        cases e : valV kvs (.inr w) with
        | none => rfl
        | some v => rw [e] at z; cases z
      have nin := ti.no hkv hs hn
      rw [← etk] at nin
      have e : dueN W k L = b := due_best ⟨hbest.1, fun l hl hst _ => by
        by_cases li : l.length ≤ i
        · exact hbest.2 l hl hst li
        · refine absurd ?_ nin
          have el : (W.drop k).take l.length = l := of_decide_eq_true hst
          have : (W.drop k).take (i + 1) = l.take (i + 1) := by
            conv => rhs; rw [← el, List.take_take, Nat.min_eq_left (by omega)]
          rw [this]
          exact ti.take (eo.all l hl) (by omega)⟩
      rw [← e]
      exact ⟨_, rfl, q H1 g⟩
    · obtain ⟨v, hv⟩ : ∃ v, valV kvs (.inr w) = some v := by
        cases e : valV kvs (.inr w) with
        | none => rw [e] at z; exact absurd rfl z
        | some v => exact ⟨v, rfl⟩
      obtain ⟨n, rfl, hn⟩ := ti.yes hkv hs hv
      rw [← etk] at hn
      have dg := DGet.k (k := .inr w) ha
      rw [hv] at dg
      refine ⟨_, rfl, m, CM, dx, _, _, rfl, hm1, c, n1, rfl, _, rfl, st, _, _, _, rfl, rfl, SqL.of ht1.lst, eat, _, rfl, _, rfl, wd, _, _, _, rfl, rfl, hW1, ewat, a, _, rfl, dg, ?_⟩
      refine ⟨_, rfl, _, rfl, m, CM, dx, _, _, rfl, hm1, c, n2, rfl, en, _, rfl, DGet.k (k := .inl (n : Int)) (g _ _ he), _, rfl, ?_⟩
      refine ite2 (fun z => ?_) (fun z => ?_)
      · have inL := (eo.iff hn).mp z
        refine ⟨_, rfl, _, rfl, _, _, rfl, rfl, _, _, rfl, rfl, g, n, i + 1, some (.int ((k : Int) + (i : Int))), hn, ⟨.inr ⟨_, inL, decide_eq_true (by rw [ltk]), ltk⟩, fun l hl hst hle => hle⟩, ?_⟩
        have ez : (k : Int) + (i : Int) - (k : Int) + 1 = ((i + 1 : Nat) : Int) := by omega
        show [some (V.ref m), some (V.ref wd), some (V.int (k : Nat)), some (V.int (n : Nat)), some (V.int ((k : Int) + (i : Int) - (k : Int) + 1)), some (V.int ((k : Int) + (i : Int)))] = _
        rw [ez]
      · refine ⟨g, n, b, _, hn, ⟨hbest.1, fun l hl hst hle => ?_⟩, rfl⟩
        by_cases li : l.length ≤ i
        · exact hbest.2 l hl hst li
        · refine absurd ((eo.iff hn).mpr ?_) z
          have el : (W.drop k).take l.length = l := of_decide_eq_true hst
          rw [show i + 1 = l.length by omega, el]
          exact hl
  · rintro σ' H1 ⟨g, s, b, u5, hs, hbest, rfl⟩
    have e : ((((W.map V.str).length : Nat) : Int) - (k : Int)).toNat = W.length - k := by omega
    rw [e] at hbest
    rw [← due_best hbest]
    exact ⟨_, rfl, q H1 g⟩
end
end D
namespace D
open PySem L2
abbrev M3 := Int × Int × List Int
def m3R (H : Hp) (m : M3) (v : V) : Prop := ∃ a p, v = .ref a ∧ H a = some (.tup [.int m.1, .int m.2.1, .ref p]) ∧ H p = some (.tup (m.2.2.map V.int))
theorem m3R.mono {H H' : Hp} {m : M3} {v : V} (h : m3R H m v) (g : TSame H H') : m3R H' m v := let ⟨a, p, e, h1, h2⟩ := h; ⟨a, p, e, g _ _ h1, g _ _ h2⟩
def mb1 (T : Tab (List Int)) (W : List Str) (k : Nat) : List M3 := if 0 < dueN W k (keysA T) then [((k : Int), ((dueN W k (keysA T) : Nat) : Int), (lookA T ((W.drop k).take (dueN W k (keysA T)))).getD [])] else []
def mbD (T : Tab (List Int)) (W : List Str) : Nat → Nat → List M3
  | 0, _ => []
  | f + 1, k => if k < W.length then mb1 T W k ++ mbD T W f (k + max (dueN W k (keysA T)) 1) else []
def mbA (T : Tab (List Int)) (W : List Str) : List M3 := mbD T W W.length 0
theorem mbD_out {T : Tab (List Int)} {W : List Str} {k : Nat} (h : W.length ≤ k) : ∀ f, mbD T W f k = []
  | 0 => rfl
  | f + 1 => if_neg (by omega)
theorem due_in {T : Tab (List Int)} {W : List Str} {k : Nat} (h : 0 < dueN W k (keysA T)) : (W.drop k).take (dueN W k (keysA T)) ∈ keysA T ∧ k + dueN W k (keysA T) ≤ W.length := by
  obtain ⟨h1, _⟩ := due_fold W k (keysA T) 0
  have e : dueN W k (keysA T) = (keysA T).foldl (fun m l => if stands W k l = true then (if l.length > m then l.length else m) else m) 0 := rfl
  rw [← e] at h1
  rcases h1 with z | ⟨l, hl, a, b⟩
  · omega
  · have el : (W.drop k).take l.length = l := of_decide_eq_true a
    rw [← b, el]
    refine ⟨hl, ?_⟩
    have := congrArg List.length el
    rw [List.length_take, List.length_drop] at this
    omega
def spMB (CM : Addr) : Sp := fun vs H Q _ => ∃ (m d wd : Addr) (T : Tab (List Int)) (kvs : List (List Key × V)) (W : List Str), vs = [.ref m, .ref d, .ref wd] ∧ MR CM H (keysA T) m ∧ H d = some (.dT kvs) ∧ tabR wnR H T kvs ∧ H wd = some (.tup (W.map V.str)) ∧ W.length ≤ 200 ∧ (∀ z ∈ W, Wd z) ∧
  ∀ r xs H', Same H H' → H r = none → H' r = some (.lst xs) → Paired (m3R H') (mbA T W) xs → Q (.ref r) H'
section
variable {P : Program} {w : World} {K : PySem.W.Frag} {mg : Str → Option Value} {base : Heap} {f : Addr} {fd : FuncData} {CM : Addr}
theorem scMB : FnScope ["machine", "told", "words", "found", "at", "length"] ["machine", "told", "words"] (defScope s_marks_by) := ⟨rfl, rfl, rfl, by decide +kernel, rfl, by decide +kernel, by decide +kernel⟩
set_option maxHeartbeats 8000000 in
theorem ok_mb {fL : Addr} {fdL : FuncData} (F : Fun K "marks_by" "marks_by" s_marks_by f fd) (T : Nm mg) (c : Cls K CM) (hm : Meth K CM "longest" fL) (FL : FnOk P w K mg base CX0 20 fL fdL ["self", "words", "at"] (spLong (MR CM))) (bL : Binds K fdL ["self", "words", "at"] []) : FnOk P w K mg base CX0 21 f fd ["machine", "told", "words"] (spMB CM) := by
  refine F.ok scMB (fun vs H Q E h => ?_) (fun cdv A outer s H vs Q E hr h => ?_)
  · obtain ⟨m, d, wd, T, kvs, W, rfl, _⟩ := h
    rfl
  obtain ⟨m, d, wd, TT, kvs, W, rfl, hM, hd, hT, hW, hWl, hWd, q⟩ := h
  have hu1 : (A.deeper (PyProof.Rows.envOfC "marks_by" (defScope s_marks_by) s.heap.objs.size f cdv)).units + 1 < cLine := by have := hr.un; omega
  refine ⟨_, pss_cons (ps_set (i := 3) scMB.nd rfl (Or.inl rfl) (pe_lst pa_nil))
    (pss_cons (ps_set (i := 4) scMB.nd rfl (Or.inl rfl) pe_int)
    (pss_cons (ps_while PassesOwn.never (pt_cmpR op_lt (pv 4) (pe_callB call_len_seq rfl T.len PySem.boot_len (pa_cons (pv 2) pa_nil)) (nomark _))
      (pss_cons (ps_set (i := 5) scMB.nd rfl (Or.inl rfl) (pe_meth (pv 0) c hm FL hr bL .nil pass0 (pa_cons (pv 2) (pa_cons (pv 4) pa_nil))))
      (pss_cons (ps_if (pt_cmpR op_gt (pv 5) pe_int (nomark _)) (pss_one (ps_expr (pe_bm PySem.F.plainAttrs_list PySem.F.slot_list_append PySem.F.type_list_append mt_append (pv 3) (pa_cons (pe_tup (pa_cons (pv 4) (pa_cons (pv 5) (pa_cons (pe_dget hu1 (pv 1) (pe_slice sl_tupX (pv 2) (po_some (pv 4)) (po_some (pe_op op_add (pv 4) (pv 5)))) (fun _ _ => rfl)) pa_nil)))) pa_nil)))) pss_nil)
      (pss_one (ps_set (i := 4) scMB.nd rfl (Or.inl rfl) (pe_op op_add (pv 4) (pe_callB (call_max2 rfl) rfl T.mx PyProof.Rows.boot_max (pa_cons (pv 5) (pa_cons pe_int pa_nil)))))))))
    (pss_one (ps_ret (pv 3))))), ?_⟩
  have hb := big
  have MO := machOk CM
  have hlW : (W.map V.str).length = W.length := List.length_map _
  refine ⟨(by show 0 ≤ sizeLine; decide), fun fl hfl => ?_⟩
  have g0 := same_new hfl (.lst [])
  refine while_postA (fun n σ2 H2 => ∃ (k : Nat) (acc : List M3) (zs : List V) (u5 : Option V), Same H H2 ∧ H2 fl = some (.lst zs) ∧ Paired (m3R H2) acc zs ∧ acc ++ mbD TT W n k = mbA TT W ∧ W.length ≤ n + k ∧ acc.length ≤ k ∧ σ2 = [some (.ref m), some (.ref d), some (.ref wd), some (.ref fl), some (.int (k : Nat)), u5]) (fun σ2 H2 => ∃ (zs : List V) (u4 u5 : Option V), Same H H2 ∧ H2 fl = some (.lst zs) ∧ Paired (m3R H2) (mbA TT W) zs ∧ σ2 = [some (.ref m), some (.ref d), some (.ref wd), some (.ref fl), u4, u5]) ⟨W.length, 0, [], [], none, g0, upd_same, .nil, rfl, Nat.le_refl _, Nat.le_refl _, rfl⟩ ?_ ?_
  · rintro R hR n σ2 H2 ⟨k, acc, zs, u5, g, hl2, hzs, hacc, hn, hak, rfl⟩
    refine ⟨_, rfl, _, rfl, wd, _, rfl, .inr (SqT.of (g _ _ hW)), _, _, rfl, rfl, _, rfl, ?_⟩
    refine ite2 (fun z => ?_) (fun z => ?_)
    · have kl : k < W.length := by
        have := of_decide_eq_true z
        rw [hlW] at this
        omega
      obtain ⟨n', rfl⟩ : ∃ n', n = n' + 1 := ⟨n - 1, by omega⟩
      have eD : mbD TT W (n' + 1) k = mb1 TT W k ++ mbD TT W n' (k + max (dueN W k (keysA TT)) 1) := if_pos kl
      rw [eD] at hacc
      refine ⟨fun σ' H' => ∃ (k : Nat) (acc : List M3) (zs : List V) (u5 : Option V), Same H H' ∧ H' fl = some (.lst zs) ∧ Paired (m3R H') acc zs ∧ acc ++ mbD TT W n' k = mbA TT W ∧ W.length ≤ n' + k ∧ acc.length ≤ k ∧ σ' = [some (.ref m), some (.ref d), some (.ref wd), some (.ref fl), some (.int (k : Nat)), u5], fun σ' H' h => ⟨n', Nat.lt_succ_self _, h⟩, ?_⟩
      have hM2 := MO.mono hM g
      obtain ⟨dx, fs, hi, hlk⟩ := MO.ins hM2
      refine ⟨_, rfl, m, dx, fs, rfl, hi, hlk, _, rfl, _, rfl, m, wd, W, keysA TT, k, rfl, hM2, g _ _ hW, hWl, Nat.le_of_lt kl, hWd, fun H3 g3 => ?_⟩
      have gA := g.trans g3
      have din := @due_in TT W k
      generalize hdu : dueN W k (keysA TT) = du at din hacc
      have emb : mb1 TT W k = if 0 < du then [((k : Int), ((du : Nat) : Int), (lookA TT ((W.drop k).take du)).getD [])] else [] := by unfold mb1; rw [hdu]
      have ez : (if (1 : Int) > ((du : Nat) : Int) then (1 : Int) else ((du : Nat) : Int)) = ((max du 1 : Nat) : Int) := by
        split <;> omega
      have ek : ((k : Nat) : Int) + (if (1 : Int) > ((du : Nat) : Int) then (1 : Int) else ((du : Nat) : Int)) = ((k + max du 1 : Nat) : Int) := by rw [ez]; omega
      refine ⟨_, rfl, _, _, rfl, rfl, _, rfl, ?_⟩
      refine ite2 (fun z => ?_) (fun z => ?_)
      · have d0 : 0 < du := by have := of_decide_eq_true z; omega
        obtain ⟨din1, din2⟩ := din d0
        rw [if_pos d0] at emb
        obtain ⟨wl, wv, e1, e2, hwv⟩ : ∃ wl wv, lookA TT ((W.drop k).take du) = some wl ∧ valV kvs (inr ((W.drop k).take du)) = some wv ∧ wnR H wl wv := by
          rcases tab_look (k := (W.drop k).take du) hT with ⟨a1, a2⟩ | ⟨a1, a2, a3, a4, a5⟩
          · rw [keys_look, a1] at din1; cases din1
          · exact ⟨a1, a2, a3, a4, a5⟩
        rw [e1] at emb
        have hl3 := g3 _ _ hl2
        refine ⟨_, rfl, .inl ⟨rfl, _, SqL.of hl3⟩, _, rfl, _, rfl, _, rfl, _, rfl, _, rfl, _, rfl, _, rfl, _, rfl, _, _, rfl, rfl, _, rfl, wd, _, rfl, gA _ _ hW, fun p8 H8 g8 h8 => ?_⟩
        have e8 : cutV (W.map V.str) (some ((k : Nat) : Int)) (some (((k : Nat) : Int) + ((du : Nat) : Int))) = ((W.drop k).take du).map V.str := by
          rw [show ((k : Nat) : Int) + ((du : Nat) : Int) = ((k + du : Nat) : Int) by omega, cutV_mid, List.map_take, List.map_drop]
          congr 1
          omega
        have h8' : H8 p8 = some (.tup ((inr ((W.drop k).take du)).map kV)) := by rw [inr_kV, ← e8]; exact h8
        have gB := gA.trans g8
        have dg := DGet.t (k := inr ((W.drop k).take du)) (gB _ _ hd) h8'
        rw [e2] at dg
        obtain ⟨wp, rfl, hwp⟩ := hwv
        refine ⟨d, _, rfl, dg, (by show 3 ≤ sizeLine; decide), fun t9 ht9 => ?_⟩
        have g9 := same_new ht9 (.tup [.int (k : Nat), .int (du : Nat), .ref wp])
        have e9 : upd H8 t9 (.tup [.int (k : Nat), .int (du : Nat), .ref wp]) t9 = some (.tup [.int (k : Nat), .int (du : Nat), .ref wp]) := upd_same
        generalize upd H8 t9 (.tup [.int (k : Nat), .int (du : Nat), .ref wp]) = H9 at g9 e9
        have g39 := g8.trans g9
        have hl9 := g39 _ _ hl3
        have zl := Paired.length hzs
        refine ⟨fl, _, _, rfl, rfl, hl9, by omega, ?_⟩
        have tA : TSame H9 (upd H9 fl (.lst (zs ++ [.ref t9]))) := TSame.lst hl9
        refine ⟨_, rfl, _, rfl, _, _, rfl, _, _, rfl, rfl, ?_⟩
        refine ⟨k + max du 1, acc ++ [((k : Int), ((du : Nat) : Int), wl)], zs ++ [.ref t9], some (.int (du : Nat)), keep_upd hfl (gA.trans g39) _, upd_same, ?_, ?_, by omega, by rw [List.length_append]; show acc.length + 1 ≤ _; omega, ?_⟩
        · exact paired_app (Paired.mapP hzs fun _ _ z => z.mono ((g3.t.trans g39.t).trans tA)) (.cons ⟨t9, wp, rfl, tA _ _ e9, tA _ _ ((gB.trans g9) _ _ hwp)⟩ .nil)
        · rw [← hacc, emb]
          simp
        · rw [← ek]
          rfl
      · have d0 : ¬ 0 < du := fun y => z (decide_eq_true (by omega))
        rw [if_neg d0] at emb
        refine ⟨_, rfl, _, rfl, _, _, rfl, _, _, rfl, rfl, ?_⟩
        refine ⟨k + max du 1, acc, zs, some (.int (du : Nat)), gA, g3 _ _ hl2, Paired.mapP hzs fun _ _ z => z.mono g3.t, ?_, by omega, by omega, ?_⟩
        · rw [← hacc, emb, List.nil_append]
        · rw [← ek]
          rfl
    · have kl : W.length ≤ k := by
        have : ¬ ((k : Nat) : Int) < (((W.map V.str).length : Nat) : Int) := fun y => z (decide_eq_true y)
        rw [hlW] at this
        omega
      rw [mbD_out kl, List.append_nil] at hacc
      exact hR _ _ ⟨zs, _, _, g, hl2, by rw [← hacc]; exact hzs, rfl⟩
  · rintro σ2 H2 ⟨zs, u4, u5, g, hl2, hzs, rfl⟩
    exact ⟨_, rfl, q fl zs H2 g hfl hl2 hzs⟩
end
end D
namespace D
open PySem L2
abbrev Rw3 := Int × List Str × List Int
def rw3R (H : Hp) (r : Rw3) (v : V) : Prop := ∃ a wa pa, v = .ref a ∧ H a = some (.tup [.int r.1, .ref wa, .ref pa]) ∧ H wa = some (.tup (r.2.1.map V.str)) ∧ iT H pa r.2.2
theorem rw3R.mono {H H' : Hp} {r : Rw3} {v : V} (h : rw3R H r v) (g : TSame H H') : rw3R H' r v := let ⟨a, wa, pa, e, h1, h2, h3⟩ := h; ⟨a, wa, pa, e, g _ _ h1, g _ _ h2, g _ _ h3⟩
def rowO (x : PTh) : List Rw3 := match x.2 with
  | .say n ws => [(n, ws, x.1)]
  | .tell n _ _ _ ms => [(n, ms, x.1)]
  | .part _ _ => []
def rowsD (f : L2.F) : List Rw3 := (ordP [0] f).flatMap rowO
theorem rowO_len (l : List PTh) : (l.flatMap rowO).length ≤ l.length := by
  induction l with
  | nil => exact Nat.le_refl _
  | cons x r ih =>
    rw [List.flatMap_cons, List.length_append, List.length_cons]
    have : (rowO x).length ≤ 1 := by
      obtain ⟨p, t⟩ := x
      cases t with
      | say n ws => exact Nat.le_refl _
      | tell n sc ph bs ms => exact Nat.le_refl _
      | part n i => exact Nat.zero_le _
    omega
def spRws3 : Sp := fun vs H Q _ => ∃ (v : V) (f : L2.F), vs = [v] ∧ partR H 0 f v ∧ f.dep ≤ 10 ∧ f.ord.length ≤ 200 ∧ ∀ r xs H', Same H H' → H r = none → H' r = some (.lst xs) → Paired (rw3R H') (rowsD f) xs → Q (.ref r) H'
section
variable {P : Program} {w : World} {K : PySem.W.Frag} {mg : Str → Option Value} {base : Heap} {f : Addr} {fd : FuncData}
theorem scRws : FnScope ["doc", "found", "thing", "path"] ["doc"] (defScope s_rows_with_homes) := ⟨rfl, rfl, rfl, by decide +kernel, rfl, by decide +kernel, by decide +kernel⟩
set_option maxHeartbeats 8000000 in
theorem ok_rws (F : Fun K "rows_with_homes" "rows_with_homes" s_rows_with_homes f fd) (GW : Def P w K mg base CX0 21 "things_with_homes" ["part", "path"] (spTwh 21)) : FnOk P w K mg base CX0 22 f fd ["doc"] spRws3 := by
  refine F.ok scRws (fun vs H Q E h => ?_) (fun cdv A outer s H vs Q E hr h => ?_)
  · obtain ⟨v, fo, rfl, _⟩ := h
    rfl
  obtain ⟨v, fo, rfl, hv, hdp, hfw, q⟩ := h
  refine ⟨_, pss_cons (ps_set (i := 1) scRws.nd rfl (Or.inl rfl) (pe_lst pa_nil))
    (pss_cons (ps_for PassesOwn.never rfl (pi_list (pe_def GW hr (pa_cons (pv 0) (pa_cons (pe_tup (pa_cons pe_int pa_nil)) pa_nil)))) (pg_tup rfl (pgs_cons (pg_name (i := 2) scRws.nd rfl (Or.inl rfl)) (pgs_cons (pg_name (i := 3) scRws.nd rfl (Or.inl rfl)) pgs_nil)))
      (pss_one (ps_if (pt_cmpR op_eq (pe_ix ix_tup (pv 2) pe_int (fun _ _ => rfl)) pe_str (nomark _))
        (pss_one (ps_expr (pe_bm PySem.F.plainAttrs_list PySem.F.slot_list_append PySem.F.type_list_append mt_append (pv 1) (pa_cons (pe_tup (pa_cons (pe_ix ix_tup (pv 2) pe_int (fun _ _ => rfl)) (pa_cons (pe_ix ix_tup (pv 2) pe_int (fun _ _ => rfl)) (pa_cons (pv 3) pa_nil)))) pa_nil))))
        (pss_one (ps_if (pt_cmpR op_eq (pe_ix ix_tup (pv 2) pe_int (fun _ _ => rfl)) pe_str (nomark _))
          (pss_one (ps_expr (pe_bm PySem.F.plainAttrs_list PySem.F.slot_list_append PySem.F.type_list_append mt_append (pv 1) (pa_cons (pe_tup (pa_cons (pe_ix ix_tup (pv 2) pe_int (fun _ _ => rfl)) (pa_cons (pe_ix ix_tup (pv 2) pe_int (fun _ _ => rfl)) (pa_cons (pv 3) pa_nil)))) pa_nil)))) pss_nil)))))
    (pss_one (ps_ret (pv 1)))), ?_⟩
  have hb := big
  refine ⟨(by show 0 ≤ sizeLine; decide), fun l hl => ?_⟩
  have g1 := same_new hl (.lst [])
  have e1 : upd H l (.lst []) l = some (.lst []) := upd_same
  generalize upd H l (.lst []) = H1 at g1 e1 ⊢
  refine ⟨_, rfl, (by show 1 ≤ sizeLine; decide), fun t0 ht0 => ?_⟩
  have g2 := same_new ht0 (.tup [.int 0])
  have e2 : iT (upd H1 t0 (.tup [.int 0])) t0 [0] := upd_same
  have l2 := g2 _ _ e1
  generalize upd H1 t0 (.tup [.int 0]) = H2 at g2 e2 l2 ⊢
  refine ⟨v, 0, fo, t0, [0], rfl, thR.mono (t := .part 0 fo) hv (g1.trans g2).t, e2, by omega, by omega, by show 1 + _ ≤ 1000; omega, fun r xs H3 g3 hr3 er hxs => ?_⟩
  have nlr : l ≠ r := fun e => by rw [← e, l2] at hr3; cases hr3
  have l3 := g3 _ _ l2
  have g13 := (g1.trans g2).trans g3
  refine ⟨r, rfl, ⟨_, SqL.of er⟩, ?_⟩
  refine for_list (K := K) (a := r) (xs := xs) (fun i σ' H' => Same H H' ∧ TSame H3 H' ∧ H' r = some (.lst xs) ∧ ∃ (zs : List V) (u2 u3 : Option V), σ' = [some v, some (.ref l), u2, u3] ∧ H' l = some (.lst zs) ∧ Paired (rw3R H') (((ordP [0] fo).take i).flatMap rowO) zs) ?_ (fun i σ' H' _ h => SqL.of h.2.2.1) ?_ ?_
  · exact ⟨g13, TSame.refl _, er, [], _, _, rfl, l3, .nil⟩
  · rintro i y σ' H4 hi ⟨g4, t4, hr4, zs, u2, u3, rfl, hl4, hzs⟩
    obtain ⟨x, ex, hx⟩ := paired_get hxs hi
    obtain ⟨z, a, tu, rfl, k1, k2, k3⟩ := hx.mono t4
    have etk : ((ordP [0] fo).take (i + 1)).flatMap rowO = ((ordP [0] fo).take i).flatMap rowO ++ rowO x := by
      rw [List.take_add_one, ex, List.flatMap_append]
      show _ ++ (rowO x ++ []) = _
      rw [List.append_nil]
    have zl : zs.length ≤ 200 := by
      have h1 := Paired.length hzs
      have h2 := rowO_len ((ordP [0] fo).take i)
      rw [List.length_take, ordP_len] at h2
      omega
    have put : ∀ (n : Int) (W : List Str) (wa t6 : Addr) (H5 : Hp), Same H4 H5 → H5 wa = some (.tup (W.map V.str)) → H5 t6 = some (.tup [.int n, .ref wa, .ref a]) → rowO x = [(n, W, x.1)] →
        Same H (upd H5 l (.lst (zs ++ [.ref t6]))) ∧ TSame H3 (upd H5 l (.lst (zs ++ [.ref t6]))) ∧ upd H5 l (.lst (zs ++ [.ref t6])) r = some (.lst xs) ∧ upd H5 l (.lst (zs ++ [.ref t6])) l = some (.lst (zs ++ [.ref t6])) ∧ Paired (rw3R (upd H5 l (.lst (zs ++ [.ref t6])))) (((ordP [0] fo).take (i + 1)).flatMap rowO) (zs ++ [.ref t6]) := by
      intro n W wa t6 H5 g5 hwa h6 eO
      have hl5 := g5 _ _ hl4
      have t7 : TSame H5 (upd H5 l (.lst (zs ++ [.ref t6]))) := TSame.lst hl5
      refine ⟨keep_upd hl (g4.trans g5) _, (t4.trans g5.t).trans t7, by rw [upd_ne nlr.symm]; exact g5 _ _ hr4, upd_same, ?_⟩
      rw [etk, eO]
      exact paired_app (Paired.mapP hzs fun _ _ z => z.mono (g5.t.trans t7)) (.cons ⟨t6, wa, a, rfl, t7 _ _ h6, t7 _ _ hwa, t7 _ _ (g5 _ _ k2)⟩ .nil)
    refine ⟨z, _, rfl, SqT.of k1, rfl, _, _, rfl, _, _, rfl, rfl, ?_⟩
    obtain ⟨xp, xt⟩ := x
    cases xt with
    | say n W =>
      obtain ⟨tb, x1, rfl, w1, ⟨wa, rfl, w2⟩⟩ := (show sayR H4 n W tu from k3)
      refine ⟨_, rfl, tb, _, _, _, rfl, rfl, SqT.of w1, rfl, rfl, _, rfl, ?_⟩
      refine iteT ?_
      refine ⟨_, rfl, .inl ⟨rfl, _, SqL.of hl4⟩, _, rfl, tb, _, _, _, rfl, rfl, SqT.of w1, rfl, _, rfl, tb, _, _, _, rfl, rfl, SqT.of w1, rfl, _, rfl, (by show 3 ≤ sizeLine; decide), fun t6 ht6 => ?_⟩
      have g6 := same_new ht6 (.tup [.int n, .ref wa, .ref a])
      refine ⟨l, _, _, rfl, rfl, g6 _ _ hl4, by omega, ?_⟩
      obtain ⟨q1, q2, q3, q4, q5⟩ := put n W wa t6 _ g6 (g6 _ _ w2) upd_same rfl
      exact ⟨q1, q2, q3, _, _, _, rfl, q4, q5⟩
    | part n fi =>
      obtain ⟨ta, tx, rfl, hta, hk0, _⟩ := thR_head k3
      refine ⟨_, rfl, ta, _, _, _, rfl, rfl, SqT.of hta, hk0, rfl, _, rfl, ?_⟩
      rw [show decide (V.str (knd (.part n fi)) = V.str "say") = false from (by decide : decide (V.str "part" = V.str "say") = false)]
      refine iteF ⟨_, rfl, ta, _, _, _, rfl, rfl, SqT.of hta, hk0, rfl, _, rfl, ?_⟩
      rw [show decide (V.str (knd (.part n fi)) = V.str "tell") = false from (by decide : decide (V.str "part" = V.str "tell") = false)]
      refine iteF ⟨g4, t4, hr4, zs, _, _, rfl, hl4, ?_⟩
      rw [etk]
      show Paired _ (_ ++ []) zs
      rw [List.append_nil]
      exact hzs
    | tell n sc ph bs W =>
      obtain ⟨tb, x1, y1, z1, rfl, w1, w2, w3, ⟨wa, rfl, w4⟩⟩ := (show tellR H4 n sc ph bs W tu from k3)
      refine ⟨_, rfl, tb, _, _, _, rfl, rfl, SqT.of w1, rfl, rfl, _, rfl, ?_⟩
      refine iteF ⟨_, rfl, tb, _, _, _, rfl, rfl, SqT.of w1, rfl, rfl, _, rfl, ?_⟩
      refine iteT ?_
      refine ⟨_, rfl, .inl ⟨rfl, _, SqL.of hl4⟩, _, rfl, tb, _, _, _, rfl, rfl, SqT.of w1, rfl, _, rfl, tb, _, _, _, rfl, rfl, SqT.of w1, rfl, _, rfl, (by show 3 ≤ sizeLine; decide), fun t6 ht6 => ?_⟩
      have g6 := same_new ht6 (.tup [.int n, .ref wa, .ref a])
      refine ⟨l, _, _, rfl, rfl, g6 _ _ hl4, by omega, ?_⟩
      obtain ⟨q1, q2, q3, q4, q5⟩ := put n W wa t6 _ g6 (g6 _ _ w4) upd_same rfl
      exact ⟨q1, q2, q3, _, _, _, rfl, q4, q5⟩
  · rintro σ' H4 ⟨g4, t4, hr4, zs, u2, u3, rfl, hl4, hzs⟩
    have xl : xs.length = (ordP [0] fo).length := (Paired.length hxs).symm
    rw [xl, List.take_length] at hzs
    exact ⟨_, rfl, q l zs H4 g4 hl hl4 hzs⟩
end
theorem due_le {W : List Str} {k : Nat} {L L' : List (List Str)} (h : ∀ l ∈ L, l ∈ L') : dueN W k L ≤ dueN W k L' := by
  obtain ⟨h1, _⟩ := due_fold W k L 0
  obtain ⟨_, _, h3⟩ := due_fold W k L' 0
  have e : dueN W k L = L.foldl (fun m l => if stands W k l = true then (if l.length > m then l.length else m) else m) 0 := rfl
  have e' : dueN W k L' = L'.foldl (fun m l => if stands W k l = true then (if l.length > m then l.length else m) else m) 0 := rfl
  rw [← e] at h1
  rw [← e'] at h3
  rcases h1 with z | ⟨l, hl, a, b⟩
  · omega
  · rw [← b]; exact h3 l (h l hl) a
theorem mbA_alike {T U : Tab (List Int)} (h : Alike T U) (W : List Str) : mbA T W = mbA U W := by
  have hk : ∀ l, l ∈ keysA T ↔ l ∈ keysA U := fun l => by rw [keys_look, keys_look, h.same]
  have hd : ∀ k, dueN W k (keysA T) = dueN W k (keysA U) := fun k => Nat.le_antisymm (due_le fun l hl => (hk l).mp hl) (due_le fun l hl => (hk l).mpr hl)
  have h1 : ∀ k, mb1 T W k = mb1 U W k := fun k => by unfold mb1; rw [hd, h.same]
  have all : ∀ f k, mbD T W f k = mbD U W f k := fun f => by
    induction f with
    | zero => intro k; rfl
    | succ f ih =>
      intro k
      show (if k < W.length then mb1 T W k ++ mbD T W f (k + max (dueN W k (keysA T)) 1) else []) = if k < W.length then mb1 U W k ++ mbD U W f (k + max (dueN W k (keysA U)) 1) else []
      rw [h1, ih, hd]
  exact all _ _
theorem mbD_len (T : Tab (List Int)) (W : List Str) : ∀ f k, (mbD T W f k).length ≤ f
  | 0, _ => Nat.le_refl _
  | f + 1, k => by
    show (if k < W.length then mb1 T W k ++ mbD T W f (k + max (dueN W k (keysA T)) 1) else []).length ≤ f + 1
    have := mbD_len T W f (k + max (dueN W k (keysA T)) 1)
    split
    · rw [List.length_append]
      have : (mb1 T W k).length ≤ 1 := by
        unfold mb1
        split
        · exact Nat.le_refl _
        · exact Nat.zero_le _
      omega
    · exact Nat.zero_le _
theorem best_len (pl : List Int) : ∀ (ts : List Tl) (B : Best), (∀ t ∈ ts, t.2.2.2.length ≤ 6) → (ts.foldl (tellB pl) B).length ≤ B.length + 6 * ts.length
  | [], B, _ => Nat.le_refl _
  | t :: ts, B, h => by
    rw [List.foldl_cons, List.length_cons]
    have h1 := best_len pl ts (tellB pl B t) fun u hu => h u (List.mem_cons_of_mem _ hu)
    have h2 : ∀ (fs : List (List Str)) (B : Best), (fs.foldl (stepB (forceD t.2.1 t.2.2.1 pl) t.1) B).length ≤ B.length + fs.length := fun fs => by
      induction fs with
      | nil => intro B; exact Nat.le_refl _
      | cons k r ih =>
        intro B
        rw [List.foldl_cons, List.length_cons]
        have := ih (stepB (forceD t.2.1 t.2.2.1 pl) t.1 B k)
        have : (stepB (forceD t.2.1 t.2.2.1 pl) t.1 B k).length ≤ B.length + 1 := by
          unfold stepB
          split
          · exact put_len _ _ _
          · exact Nat.le_succ _
        omega
    have h3 := h2 t.2.2.2 B
    have h4 := h t List.mem_cons_self
    have h5 : (tellB pl B t).length ≤ B.length + t.2.2.2.length := h3
    omega
theorem key_ok {ns : List Int} {ws : List Str} {f : L2.F} {pl : List Int} {ts : List Tl} (h : DocQ ns ws f 12) (hm : MnOk ws) (p : ts.Perm (tlsF f [0])) : ∀ l ∈ keysA (bestD pl ts), 1 ≤ l.length ∧ l.length ≤ 12 ∧ ∀ z ∈ l, Wd z := fun l hl => by
  rw [keys_look] at hl
  have c : Ch pl l ts (lookA (bestD pl ts) l) := ch_all fun t ht => (h.tls.ok t (p.mem_iff.mp ht)).1
  cases e : lookA (bestD pl ts) l with
  | none => rw [e] at hl; cases hl
  | some b =>
    rw [e] at c
    obtain ⟨M, w⟩ := b
    obtain ⟨_, _, ⟨t, ht, hj, _⟩, _⟩ := c
    have ht := p.mem_iff.mp ht
    rw [tls_ordP] at ht
    obtain ⟨⟨xp, xt⟩, hx, hq⟩ := List.mem_flatMap.mp ht
    have hok := h.ok _ (mem_ord hx)
    cases xt with
    | say m zs => cases hq
    | part m i => cases hq
    | tell m sc ph bs ms =>
      have e := List.mem_singleton.mp (show t ∈ [(m, sc, xp, shT ph bs)] from hq)
      rw [e] at hj
      have hj : l ∈ shT ph bs := hj
      obtain ⟨_, h4, hw, _, ⟨p0, last, rfl, os, hp, _, ho⟩, _⟩ := (show TlOk ws sc ph bs ms from hok)
      rw [List.length_append, List.length_singleton] at h4
      rw [shT_snoc] at hj
      rcases List.mem_cons.mp hj with e | m2
      · rw [e, List.length_append, List.length_singleton]
        exact ⟨by omega, by omega, fun z hz => hm.wd z (hw z hz)⟩
      · obtain ⟨b, hb, rfl⟩ := List.mem_map.mp m2
        obtain ⟨i, hi⟩ := List.getElem?_of_mem hb
        obtain ⟨o, eo, hbo⟩ := paired_to hp hi
        rw [bendW_of hbo, List.length_append, List.length_singleton]
        refine ⟨by omega, by omega, fun z hz => ?_⟩
        rcases List.mem_append.mp hz with z1 | z1
        · exact hm.wd z (hw z (List.mem_append.mpr (.inl z1)))
        · rw [List.mem_singleton.mp z1]; exact hm.wd o (ho o (List.mem_of_getElem? eo))
theorem row_ok {ns : List Int} {ws : List Str} {f : L2.F} (h : DocQ ns ws f 12) (hm : MnOk ws) : ∀ r ∈ rowsD f, r.2.1.length ≤ 200 ∧ (∀ z ∈ r.2.1, Wd z) ∧ r.2.2.length ≤ 9 := fun r hr => by
  obtain ⟨⟨xp, xt⟩, hx, hq⟩ := List.mem_flatMap.mp hr
  have hok := h.ok _ (mem_ord hx)
  have hl : xp.length ≤ 9 := by
    have h1 : xp.length ≤ [0].length + f.dep := ordP_plen [0] f _ hx
    have h2 := h.dep
    have : ([0] : List Int).length = 1 := rfl
    omega
  cases xt with
  | part m i => cases hq
  | say m zs =>
    rw [List.mem_singleton.mp (show r ∈ [(m, zs, xp)] from hq)]
    obtain ⟨_, h6, hw⟩ := (show 1 ≤ zs.length ∧ zs.length ≤ 200 ∧ ∀ z ∈ zs, z ∈ ws from hok)
    exact ⟨h6, fun z hz => hm.wd z (hw z hz), hl⟩
  | tell m sc ph bs ms =>
    rw [List.mem_singleton.mp (show r ∈ [(m, ms, xp)] from hq)]
    obtain ⟨_, _, _, _, _, _, h4, hw⟩ := (show TlOk ws sc ph bs ms from hok)
    exact ⟨by show ms.length ≤ 200; omega, fun z hz => hm.wd z (hw z hz), hl⟩
end D
namespace D
open PySem L2
def ik (p : List Int) : List Key := p.map Sum.inl
theorem ik_kV (p : List Int) : (ik p).map kV = p.map V.int := by unfold ik; rw [List.map_map]; rfl
theorem ik_inj : ∀ {p q : List Int}, ik p = ik q → p = q
  | [], [], _ => rfl
  | [], _ :: _, h => by cases h
  | _ :: _, [], h => by cases h
  | a :: p, b :: q, h => by
    have h : (Sum.inl a : Key) :: ik p = Sum.inl b :: ik q := h
    injection h with h1 h2
    injection h1 with h1
    rw [h1, ik_inj h2]
def mkRow (f : L2.F) (r : Rw3) : List Mk := (mbA (winD r.2.2 (tlsF f [0])) r.2.1).map fun m => (r.1, m.1, m.2.1, m.2.2)
def mkD (f : L2.F) : List Mk := (rowsD f).flatMap (mkRow f)
theorem flat_le {α β : Type} {g : α → List β} {c : Nat} : ∀ {l : List α}, (∀ x ∈ l, (g x).length ≤ c) → (l.flatMap g).length ≤ c * l.length
  | [], _ => Nat.zero_le _
  | x :: r, h => by
    rw [List.flatMap_cons, List.length_append, List.length_cons, Nat.mul_add]
    have := flat_le (l := r) fun y hy => h y (List.mem_cons_of_mem _ hy)
    have := h x List.mem_cons_self
    omega
theorem mkRow_len {ns : List Int} {ws : List Str} {f : L2.F} (h : DocQ ns ws f 12) (hm : MnOk ws) {r : Rw3} (hr : r ∈ rowsD f) : (mkRow f r).length ≤ 200 := by
  unfold mkRow
  rw [List.length_map]
  have := mbD_len (winD r.2.2 (tlsF f [0])) r.2.1 r.2.1.length 0
  have := (row_ok h hm r hr).1
  show (mbD (winD r.2.2 (tlsF f [0])) r.2.1 r.2.1.length 0).length ≤ 200
  omega
theorem rows_few {ns : List Int} {ws : List Str} {f : L2.F} (h : DocQ ns ws f 12) : (rowsD f).length ≤ 25 := by
  have := rowO_len (ordP [0] f)
  rw [ordP_len] at this
  have := h.few
  show ((ordP [0] f).flatMap rowO).length ≤ 25
  omega
abbrev TP (ts : List Tl) (p : List Int) : Tab (List Int) := mapT (·.2) (bestD p ts)
structure Ent (CM dt dm fl : Addr) (ts : List Tl) (H : Hp) (p : List Int) (d m : Addr) : Prop where
  nt : d ≠ dt
  nm : d ≠ dm
  nf : d ≠ fl
  tab : ∃ kvs, H d = some (.dT kvs) ∧ tabR wnR H (TP ts p) kvs
  mach : ∃ B, Same B H ∧ B dt = none ∧ B dm = none ∧ B fl = none ∧ MR CM B (keysA (TP ts p)) m
theorem Ent.mono {CM dt dm fl : Addr} {ts : List Tl} {H H' : Hp} {p : List Int} {d m : Addr} (h : Ent CM dt dm fl ts H p d m) (g : Same H H') : Ent CM dt dm fl ts H' p d m := by
  obtain ⟨kvs, h1, h2⟩ := h.tab
  obtain ⟨B, b1, b2, b3, b4, b5⟩ := h.mach
  exact ⟨h.nt, h.nm, h.nf, ⟨kvs, g _ _ h1, tab_mono h2 fun _ _ z => z.mono g.t⟩, ⟨B, b1.trans g, b2, b3, b4, b5⟩⟩
theorem Ent.upd {CM dt dm fl x : Addr} {ts : List Tl} {H : Hp} {p : List Int} {d m : Addr} {o : HO} (h : Ent CM dt dm fl ts H p d m) (hx : x = dt ∨ x = dm ∨ x = fl) (ht : ∀ xs, H x ≠ some (.tup xs)) : Ent CM dt dm fl ts (L2.upd H x o) p d m := by
  obtain ⟨kvs, h1, h2⟩ := h.tab
  obtain ⟨B, b1, b2, b3, b4, b5⟩ := h.mach
  have n1 : d ≠ x := by
    rcases hx with e | e | e
    · rw [e]; exact h.nt
    · rw [e]; exact h.nm
    · rw [e]; exact h.nf
  have n2 : B x = none := by
    rcases hx with e | e | e
    · rw [e]; exact b2
    · rw [e]; exact b3
    · rw [e]; exact b4
  have t : TSame H (L2.upd H x o) := TSame.upd fun xs z => ht xs z
  exact ⟨h.nt, h.nm, h.nf, ⟨kvs, by rw [upd_ne n1]; exact h1, tab_mono h2 fun _ _ z => z.mono t⟩, ⟨B, keep_upd n2 b1 _, b2, b3, b4, b5⟩⟩
def EntAll (CM dt dm fl : Addr) (ts : List Tl) (H : Hp) (kt km : List (List Key × V)) : Prop := ∀ p, valV kt (ik p) = none ∨ ∃ d m, valV kt (ik p) = some (.ref d) ∧ valV km (ik p) = some (.ref m) ∧ Ent CM dt dm fl ts H p d m
theorem EntAll.map {CM dt dm fl : Addr} {ts : List Tl} {H H' : Hp} {kt km : List (List Key × V)} (h : EntAll CM dt dm fl ts H kt km) (g : ∀ p d m, Ent CM dt dm fl ts H p d m → Ent CM dt dm fl ts H' p d m) : EntAll CM dt dm fl ts H' kt km := fun p => by
  rcases h p with e | ⟨d, m, e1, e2, e3⟩
  · exact .inl e
  · exact .inr ⟨d, m, e1, e2, g p d m e3⟩
theorem EntAll.put {CM dt dm fl : Addr} {ts : List Tl} {H : Hp} {kt km : List (List Key × V)} {p : List Int} {d m : Addr} (h : EntAll CM dt dm fl ts H kt km) (he : Ent CM dt dm fl ts H p d m) : EntAll CM dt dm fl ts H (putK kt (ik p) (.ref d)) (putK km (ik p) (.ref m)) := fun p' => by
  rw [valV_put, valV_put]
  by_cases e : ik p' = ik p
  · rw [if_pos e, if_pos e]
    have := ik_inj e
    subst this
    exact .inr ⟨d, m, rfl, rfl, he⟩
  · rw [if_neg e, if_neg e]
    exact h p'
theorem keys_phs {H : Hp} : ∀ {T : Tab (List Int)} {kvs : List (List Key × V)} {ys : List V}, tabR wnR H T kvs → Paired (fun kv y => ∃ b, y = V.ref b ∧ H b = some (.tup (kv.1.map kV))) kvs ys → phsR H (keysA T) ys
  | _, _, _, .nil, .nil => .nil
  | _, _, _, .cons h t, .cons ⟨b, e, hb⟩ r => .cons ⟨b, e, by rw [h.1, inr_kV] at hb; exact hb⟩ (keys_phs t r)
theorem seq_post {t u : TS} {D : Ends} {σ : St} {H : Hp} (Mid : St → Hp → Prop) (h1 : ∀ R : St → Hp → Prop, (∀ σ H, Mid σ H → R σ H) → t { D with nx := R } σ H) (h2 : ∀ σ H, Mid σ H → u D σ H) : tSeq t u D σ H := h1 (u D) h2
def spMks : Sp := fun vs H Q _ => ∃ (v : V) (f : L2.F) (ns : List Int) (ws : List Str), vs = [v] ∧ partR H 0 f v ∧ DocQ ns ws f 12 ∧ MnOk ws ∧ ∀ r xs H', Same H H' → H r = none → H' r = some (.lst xs) → mksR H' (mkD f) xs → Q (.ref r) H'
section
variable {P : Program} {w : World} {K : PySem.W.Frag} {mg : Str → Option Value} {base : Heap} {f : Addr} {fd : FuncData} {CM : Addr}
theorem scMks : FnScope ["doc", "tellings", "told", "machines", "found", "number", "words", "path", "start", "length", "winners"] ["doc"] (defScope s_marks) := ⟨rfl, rfl, rfl, by decide +kernel, rfl, by decide +kernel, by decide +kernel⟩
set_option maxHeartbeats 16000000 in
theorem ok_mks {fI : Addr} {fdI : FuncData} (F : Fun K "marks" "marks" s_marks f fd) (T : Nm mg) (GTO : Def P w K mg base CX0 22 "tellings_of" ["doc"] spTO) (GRW : Def P w K mg base CX0 22 "rows_with_homes" ["doc"] spRws3) (GTA : Def P w K mg base CX0 2 "told_at" ["tellings", "place"] spTAt) (GMB : Def P w K mg base CX0 21 "marks_by" ["machine", "told", "words"] (spMB CM))
    (mM : mg "Machine" = some (.ref CM)) (M : L2.Mk K CM fI) (FI : FnOk P w K mg base CX0 20 fI fdI ["self", "phrases"] (spMake CM (MR CM))) (bI : Binds K fdI ["self", "phrases"] []) : FnOk P w K mg base CX0 23 f fd ["doc"] spMks := by
  refine F.ok scMks (fun vs H Q E h => ?_) (fun cdv A outer s H vs Q E hr h => ?_)
  · obtain ⟨v, fo, ns, ws, rfl, _⟩ := h
    rfl
  obtain ⟨v, fo, ns, ws, rfl, hv, hD, hmn, q⟩ := h
  have hu1 : (A.deeper (PyProof.Rows.envOfC "marks" (defScope s_marks) s.heap.objs.size f cdv)).units + 1 < cLine := by have := hr.un; omega
  refine ⟨_, pss_cons (ps_set (i := 1) scMks.nd rfl (Or.inl rfl) (pe_def GTO hr (pa_cons (pv 0) pa_nil)))
    (pss_cons (ps_set (i := 2) scMks.nd rfl (Or.inl rfl) pe_dnewT)
    (pss_cons (ps_set (i := 3) scMks.nd rfl (Or.inl rfl) pe_dnewT)
    (pss_cons (ps_set (i := 4) scMks.nd rfl (Or.inl rfl) (pe_lst pa_nil))
    (pss_cons (ps_for PassesOwn.never rfl (pi_list (pe_def GRW hr (pa_cons (pv 0) pa_nil))) (pg_tup rfl (pgs_cons (pg_name (i := 5) scMks.nd rfl (Or.inl rfl)) (pgs_cons (pg_name (i := 6) scMks.nd rfl (Or.inl rfl)) (pgs_cons (pg_name (i := 7) scMks.nd rfl (Or.inl rfl)) pgs_nil))))
      (pss_cons (ps_if (pt_cmp (pc_dnotin hu1 (pv 7) (pv 2)))
        (pss_cons (ps_dput hu1 (pv 2) (pv 7) (pe_def GTA (hr.mono (by decide)) (pa_cons (pv 1) (pa_cons (pv 7) pa_nil))) rfl)
        (pss_one (ps_dput hu1 (pv 3) (pv 7) (pe_make M FI (hr.mono (by decide)) rfl mM bI .nil pass0 (pa_cons (pe_callTy (call_listD rfl) rfl T.list PyProof.Rows.boot_list (pa_cons (pe_dget hu1 (pv 2) (pv 7) (fun _ _ => rfl)) pa_nil)) pa_nil)) rfl))) pss_nil)
      (pss_one (ps_for PassesOwn.never rfl (pi_list (pe_def GMB (hr.mono (by decide)) (pa_cons (pe_dget hu1 (pv 3) (pv 7) (fun _ _ => rfl)) (pa_cons (pe_dget hu1 (pv 2) (pv 7) (fun _ _ => rfl)) (pa_cons (pv 6) pa_nil))))) (pg_tup rfl (pgs_cons (pg_name (i := 8) scMks.nd rfl (Or.inl rfl)) (pgs_cons (pg_name (i := 9) scMks.nd rfl (Or.inl rfl)) (pgs_cons (pg_name (i := 10) scMks.nd rfl (Or.inl rfl)) pgs_nil))))
        (pss_one (ps_expr (pe_bm PySem.F.plainAttrs_list PySem.F.slot_list_append PySem.F.type_list_append mt_append (pv 4) (pa_cons (pe_tup (pa_cons (pv 5) (pa_cons (pv 8) (pa_cons (pv 9) (pa_cons (pv 10) pa_nil))))) pa_nil))))))))
    (pss_one (ps_ret (pv 4))))))), ?_⟩
  have hb := big
  refine ⟨_, rfl, v, fo, ns, ws, rfl, hv, hD, hmn, fun tl ts txs H1 g1 htl0 htl hts hpm hst => ?_⟩
  have hal : ∀ p, Alike (TP ts p) (winD p (tlsF fo [0])) := fun p => told_alike hD hpm hst
  refine fun dt hdt => fun dm hdm => ⟨(by show 0 ≤ sizeLine; decide), fun fl hfl => ?_⟩
  have ntm : dt ≠ dm := fun e => by rw [← e, upd_same] at hdm; cases hdm
  have h2m : H1 dm = none := (same_new hdt (.dT [])).free hdm
  have g2 := (same_new hdt (.dT [])).trans (same_new hdm (.dT []))
  have h2f : H1 fl = none := g2.free hfl
  have e2t : upd (upd H1 dt (.dT [])) dm (.dT []) dt = some (.dT []) := by rw [upd_ne ntm, upd_same]
  have e2m : upd (upd H1 dt (.dT [])) dm (.dT []) dm = some (.dT []) := upd_same
  generalize upd (upd H1 dt (.dT [])) dm (.dT []) = H2 at hfl g2 e2t e2m ⊢
  have ntf : dt ≠ fl := fun e => by rw [← e, e2t] at hfl; cases hfl
  have nmf : dm ≠ fl := fun e => by rw [← e, e2m] at hfl; cases hfl
  have g3 := same_new hfl (.lst [])
  have e3t := g3 _ _ e2t
  have e3m := g3 _ _ e2m
  have e3f : upd H2 fl (.lst []) fl = some (.lst []) := upd_same
  have g13 := g2.trans g3
  generalize upd H2 fl (.lst []) = H3 at g3 e3t e3m e3f g13 ⊢
  have hdp := hD.dep
  have hfw := hD.few
  refine ⟨_, rfl, v, fo, rfl, thR.mono (t := .part 0 fo) hv (g1.trans g13).t, by omega, by omega, fun rw rxs H4 g4 hrw erw hrs => ?_⟩
  have e4t := g4 _ _ e3t
  have e4m := g4 _ _ e3m
  have e4f := g4 _ _ e3f
  have nrt : rw ≠ dt := fun e => by rw [e, e3t] at hrw; cases hrw
  have nrm : rw ≠ dm := fun e => by rw [e, e3m] at hrw; cases hrw
  have nrf : rw ≠ fl := fun e => by rw [e, e3f] at hrw; cases hrw
  have g14 := g13.trans g4
  refine ⟨rw, rfl, ⟨_, SqL.of erw⟩, ?_⟩
  have rl := Paired.length hrs
  have r12 := rows_few hD
  refine for_list (K := K) (a := rw) (xs := rxs) (fun i σ' H' => Same H1 H' ∧ TSame H4 H' ∧ H' rw = some (.lst rxs) ∧ ∃ (kt km : List (List Key × V)) (zs : List V) (u5 u6 u7 u8 u9 u10 : Option V), H' dt = some (.dT kt) ∧ H' dm = some (.dT km) ∧ H' fl = some (.lst zs) ∧ kt.length ≤ i ∧ km.length ≤ i ∧ EntAll CM dt dm fl ts H' kt km ∧ mksR H' (((rowsD fo).take i).flatMap (mkRow fo)) zs ∧ σ' = [some v, some (.ref tl), some (.ref dt), some (.ref dm), some (.ref fl), u5, u6, u7, u8, u9, u10]) ?_ (fun i σ' H' _ h => SqL.of h.2.2.1) ?_ ?_
  · exact ⟨g14, TSame.refl _, erw, [], [], [], _, _, _, _, _, _, e4t, e4m, e4f, Nat.le_refl _, Nat.le_refl _, fun p => .inl rfl, .nil, rfl⟩
  · rintro i y σ' H5 hi ⟨g5, t5, hr5, kt, km, zs, u5, u6, u7, u8, u9, u10, h5t, h5m, h5f, ltk, lmk, hE, hzs, rfl⟩
    obtain ⟨r, er, hr'⟩ := paired_get hrs hi
    have hmem := List.mem_of_getElem? er
    obtain ⟨ok1, ok2, ok3⟩ := row_ok hD hmn r hmem
    have i12 : i < 25 := by
      have := (List.getElem?_eq_some_iff.mp er).1
      omega
    have etk : ((rowsD fo).take (i + 1)).flatMap (mkRow fo) = ((rowsD fo).take i).flatMap (mkRow fo) ++ mkRow fo r := by
      rw [List.take_add_one, er, List.flatMap_append]
      show _ ++ (mkRow fo r ++ []) = _
      rw [List.append_nil]
    have zl : zs.length ≤ 5000 := by
      have h1 := Paired.length hzs
      have h2 := flat_le (c := 200) (g := mkRow fo) (l := (rowsD fo).take i) fun x hx => mkRow_len hD hmn (List.mem_of_mem_take hx)
      rw [List.length_take] at h2
      omega
    obtain ⟨n, W, p⟩ := r
    obtain ⟨ra, wa, pa, rfl, k1, k2, k3⟩ := hr'.mono t5
    have k2 : H5 wa = some (.tup (W.map V.str)) := k2
    have k3 : iT H5 pa p := k3
    have ok1 : W.length ≤ 200 := ok1
    have ok2 : ∀ z ∈ W, Wd z := ok2
    have ok3 : p.length ≤ 9 := ok3
    have hkey : ∀ {H' : Hp}, iT H' pa p → H' pa = some (.tup ((ik p).map kV)) := fun h => by rw [ik_kV]; exact h
    refine ⟨ra, _, rfl, SqT.of k1, rfl, _, _, rfl, _, _, rfl, _, _, rfl, rfl, ?_⟩
    rw [etk]
    refine seq_post (fun σ' H6 => σ' = [some v, some (.ref tl), some (.ref dt), some (.ref dm), some (.ref fl), some (.int n), some (.ref wa), some (.ref pa), u8, u9, u10] ∧ ∃ (kt km : List (List Key × V)) (d m : Addr), Same H1 H6 ∧ TSame H5 H6 ∧ H6 rw = some (.lst rxs) ∧ H6 dt = some (.dT kt) ∧ H6 dm = some (.dT km) ∧ H6 fl = some (.lst zs) ∧ kt.length ≤ i + 1 ∧ km.length ≤ i + 1 ∧ EntAll CM dt dm fl ts H6 kt km ∧ valV kt (ik p) = some (.ref d) ∧ valV km (ik p) = some (.ref m) ∧ Ent CM dt dm fl ts H6 p d m) ?_ ?_
    · intro R hR
      refine ⟨_, rfl, _, rfl, dt, _, rfl, DGet.t (k := ik p) h5t (hkey k3), _, rfl, ?_⟩
      rcases hE p with e | ⟨d, m, e1, e2, hen⟩
      · rw [e]
        refine iteT ?_
        refine ⟨_, rfl, _, rfl, tl, pa, ts, txs, p, rfl, g5 _ _ htl, Paired.mapP hts fun _ _ z => z.mono g5.t, k3, by omega, hD.tls.perm hpm, fun t ht => tls_scope hD t (hpm.mem_iff.mp ht), fun d kvs H6 g6 hd6 ed htab hnd => ?_⟩
        have h6t := g6 _ _ h5t
        have nt : d ≠ dt := fun z => by rw [z, h5t] at hd6; cases hd6
        have nm : d ≠ dm := fun z => by rw [z, h5m] at hd6; cases hd6
        have nf : d ≠ fl := fun z => by rw [z, h5f] at hd6; cases hd6
        refine ⟨_, rfl, _, rfl, dt, _, rfl, DPut.t (k := ik p) h6t (hkey (g6 _ _ k3)) (by omega), ?_⟩
        have t7 : TSame H6 (upd H6 dt (.dT (putK kt (ik p) (.ref d)))) := TSame.upd fun xs z => by rw [h6t] at z; cases z
        have h7t : upd H6 dt (.dT (putK kt (ik p) (.ref d))) dt = some (.dT (putK kt (ik p) (.ref d))) := upd_same
        have h7d : upd H6 dt (.dT (putK kt (ik p) (.ref d))) d = some (.dT kvs) := by rw [upd_ne nt]; exact ed
        have h7m : upd H6 dt (.dT (putK kt (ik p) (.ref d))) dm = some (.dT km) := by rw [upd_ne ntm.symm]; exact g6 _ _ h5m
        have h7f : upd H6 dt (.dT (putK kt (ik p) (.ref d))) fl = some (.lst zs) := by rw [upd_ne ntf.symm]; exact g6 _ _ h5f
        have h7r : upd H6 dt (.dT (putK kt (ik p) (.ref d))) rw = some (.lst rxs) := by rw [upd_ne nrt]; exact g6 _ _ hr5
        have g7 : Same H1 (upd H6 dt (.dT (putK kt (ik p) (.ref d)))) := keep_upd hdt (g5.trans g6) _
        have tb7 := tab_mono htab (R := wnR) (H' := upd H6 dt (.dT (putK kt (ik p) (.ref d)))) fun _ _ z => z.mono t7
        have k37 : iT (upd H6 dt (.dT (putK kt (ik p) (.ref d)))) pa p := t7 _ _ (g6 _ _ k3)
        have E7 : EntAll CM dt dm fl ts (upd H6 dt (.dT (putK kt (ik p) (.ref d)))) kt km := hE.map fun p d m z => (z.mono g6).upd (.inl rfl) fun xs y => by rw [h6t] at y; cases y
        have t57 := g6.t.trans t7
        generalize upd H6 dt (.dT (putK kt (ik p) (.ref d))) = H7 at t7 h7t h7d h7m h7f h7r g7 tb7 k37 E7 t57 ⊢
        have dg := DGet.t (k := ik p) h7t (hkey k37)
        rw [valV_put, if_pos rfl] at dg
        refine ⟨_, rfl, _, rfl, dt, _, rfl, dg, d, kvs, rfl, .inl h7d, fun l ys hl hys => ?_⟩
        intro x dx hx hdx hne
        have g8 := same_new hl (.lst ys)
        have hph := keys_phs tb7 hys
        have kok : ∀ l ∈ keysA (TP ts p), 1 ≤ l.length ∧ l.length ≤ 12 ∧ ∀ z ∈ l, Wd z := fun l hl => key_ok hD hmn hpm l (by rw [keys_mapT] at hl; exact hl)
        have klen : (keysA (TP ts p)).length ≤ 300 := by
          have h1 := best_len p ts [] fun t ht => (hD.tls.ok t (hpm.mem_iff.mp ht)).2.1
          have h2 := hpm.length_eq
          have h3 := hD.tls.few
          rw [keys_mapT]
          unfold keysA
          rw [List.length_map]
          have h1 : (bestD p ts).length ≤ 0 + 6 * ts.length := h1
          omega
        refine ⟨x, l, dx, _, ys, keysA (TP ts p), rfl, rfl, hx, hdx, hne, upd_same, hph.mono g8.t, klen, kok, fun H9 B9 g9 gB9 hB9 hM9 => ⟨rfl, ?_⟩⟩
        have g79 := g8.trans g9
        have h9m := g79 _ _ h7m
        have bno : ∀ a o, upd H7 l (.lst ys) a = some o → (∀ xs, o ≠ .tup xs) → B9 a = none := fun a o ha ho => by
          cases e : B9 a with
          | none => rfl
          | some o' =>
            rcases hB9 a o' e with z | ⟨xs, z⟩
            · rw [ha] at z; cases z
            · have h1 := gB9 _ _ e
              rw [g9 _ _ ha] at h1
              cases h1
              exact absurd z (ho xs)
        refine ⟨_, rfl, _, rfl, dm, _, rfl, DPut.t (k := ik p) h9m (hkey (g79 _ _ k37)) (by omega), ?_⟩
        have tA : TSame H9 (upd H9 dm (.dT (putK km (ik p) (.ref x)))) := TSame.upd fun xs z => by rw [h9m] at z; cases z
        have hen : Ent CM dt dm fl ts H9 p d x := ⟨nt, nm, nf, ⟨kvs, g79 _ _ h7d, tab_mono tb7 fun _ _ z => z.mono g79.t⟩, ⟨B9, gB9, bno dt _ (g8 _ _ h7t) (fun _ z => nomatch z), bno dm _ (g8 _ _ h7m) (fun _ z => nomatch z), bno fl _ (g8 _ _ h7f) (fun _ z => nomatch z), hM9⟩⟩
        have um : ∀ p d m, Ent CM dt dm fl ts H9 p d m → Ent CM dt dm fl ts (upd H9 dm (.dT (putK km (ik p) (.ref x)))) p d m := fun p d m z => z.upd (.inr (.inl rfl)) fun xs y => by rw [h9m] at y; cases y
        have um2 : ∀ p' d m, Ent CM dt dm fl ts H9 p' d m → Ent CM dt dm fl ts (upd H9 dm (.dT (putK km (ik p) (.ref x)))) p' d m := fun p' d m z => z.upd (.inr (.inl rfl)) fun xs y => by rw [h9m] at y; cases y
        have lp1 := length_putK kt (ik p) (.ref d)
        have lp2 := length_putK km (ik p) (.ref x)
        refine hR _ _ ⟨rfl, putK kt (ik p) (.ref d), putK km (ik p) (.ref x), d, x, keep_upd h2m (g7.trans g79) _, (t57.trans g79.t).trans tA, by rw [upd_ne nrm]; exact g79 _ _ h7r, by rw [upd_ne ntm]; exact g79 _ _ h7t, upd_same, by rw [upd_ne nmf.symm]; exact g79 _ _ h7f, by omega, by omega, ?_, by rw [valV_put, if_pos rfl], by rw [valV_put, if_pos rfl], um2 _ _ _ hen⟩
        exact (EntAll.put (E7.map fun p d m z => z.mono g79) hen).map um2
      · rw [e1]
        refine iteF (hR _ _ ⟨rfl, kt, km, d, m, g5, TSame.refl _, hr5, h5t, h5m, h5f, by omega, by omega, hE, e1, e2, hen⟩)
    · rintro σ' H6 ⟨rfl, kt, km, d, m, g6, t6, h6r, h6t, h6m, h6f, ltk, lmk, hE6, vt, vm, hen⟩
      have k36 : iT H6 pa p := t6 _ _ k3
      have dgm := DGet.t (k := ik p) h6m (hkey k36)
      have dgt := DGet.t (k := ik p) h6t (hkey k36)
      rw [vm] at dgm
      rw [vt] at dgt
      obtain ⟨kvs, hd6, htab⟩ := hen.tab
      obtain ⟨B, b1, _, _, _, b5⟩ := hen.mach
      refine ⟨_, rfl, _, rfl, dm, _, rfl, dgm, _, rfl, _, rfl, dt, _, rfl, dgt, _, rfl, m, d, wa, TP ts p, kvs, W, rfl, (machOk CM).mono b5 b1, hd6, htab, t6 _ _ k2, by omega, ok2, fun r7 x7 H7 g7 hr7 er7 hx7 => ?_⟩
      rw [mbA_alike (hal p)] at hx7
      have eRow : mkRow fo (n, W, p) = (mbA (winD p (tlsF fo [0])) W).map fun m => (n, m.1, m.2.1, m.2.2) := rfl
      rw [eRow]
      have mlen : (mbA (winD p (tlsF fo [0])) W).length ≤ 200 := by
        have := mbD_len (winD p (tlsF fo [0])) W W.length 0
        show (mbD (winD p (tlsF fo [0])) W W.length 0).length ≤ 200
        omega
      generalize mbA (winD p (tlsF fo [0])) W = ms at hx7 mlen
      have n7t : r7 ≠ dt := fun z => by rw [z, h6t] at hr7; cases hr7
      have n7m : r7 ≠ dm := fun z => by rw [z, h6m] at hr7; cases hr7
      have n7f : r7 ≠ fl := fun z => by rw [z, h6f] at hr7; cases hr7
      have xl := Paired.length hx7
      refine ⟨r7, rfl, ⟨_, SqL.of er7⟩, ?_⟩
      refine for_list (K := K) (a := r7) (xs := x7) (fun j σ' H' => Same H1 H' ∧ TSame H7 H' ∧ H' rw = some (.lst rxs) ∧ H' r7 = some (.lst x7) ∧ ∃ (zs' : List V) (u8 u9 u10 : Option V), H' dt = some (.dT kt) ∧ H' dm = some (.dT km) ∧ H' fl = some (.lst zs') ∧ EntAll CM dt dm fl ts H' kt km ∧ mksR H' (((rowsD fo).take i).flatMap (mkRow fo) ++ (ms.take j).map fun m => (n, m.1, m.2.1, m.2.2)) zs' ∧ σ' = [some v, some (.ref tl), some (.ref dt), some (.ref dm), some (.ref fl), some (.int n), some (.ref wa), some (.ref pa), u8, u9, u10]) ?_ (fun j σ' H' _ h => SqL.of h.2.2.2.1) ?_ ?_
      · refine ⟨g6.trans g7, TSame.refl _, g7 _ _ h6r, er7, zs, _, _, _, g7 _ _ h6t, g7 _ _ h6m, g7 _ _ h6f, hE6.map fun p d m z => z.mono g7, ?_, rfl⟩
        show mksR H7 (_ ++ []) zs
        rw [List.append_nil]
        exact hzs.mono (t6.trans g7.t)
      · rintro j y σ' H8 hj ⟨g8, t8, h8r, h87, zs', v8, v9, v10, h8t, h8m, h8f, hE8, hz8, rfl⟩
        obtain ⟨m3, em, hm3⟩ := paired_get hx7 hj
        obtain ⟨ma, mp, rfl, m1, m2⟩ := hm3.mono t8
        have jl := (List.getElem?_eq_some_iff.mp em).1
        have zl8 : zs'.length ≤ 6000 := by
          have h1 := Paired.length hz8
          rw [List.length_append, List.length_map, List.length_take] at h1
          have h2 := Paired.length hzs
          omega
        refine ⟨ma, _, rfl, SqT.of m1, rfl, _, _, rfl, _, _, rfl, _, _, rfl, rfl, ?_⟩
        refine ⟨_, rfl, .inl ⟨rfl, _, SqL.of h8f⟩, _, rfl, _, rfl, _, rfl, _, rfl, (by show 4 ≤ sizeLine; decide), fun t9 ht9 => ?_⟩
        have g9 := same_new ht9 (.tup [.int n, .int m3.1, .int m3.2.1, .ref mp])
        have e9 : upd H8 t9 (.tup [.int n, .int m3.1, .int m3.2.1, .ref mp]) t9 = some (.tup [.int n, .int m3.1, .int m3.2.1, .ref mp]) := upd_same
        generalize upd H8 t9 (.tup [.int n, .int m3.1, .int m3.2.1, .ref mp]) = H9 at g9 e9
        have h9f := g9 _ _ h8f
        refine ⟨fl, _, _, rfl, rfl, h9f, by omega, ?_⟩
        have tA : TSame H9 (upd H9 fl (.lst (zs' ++ [.ref t9]))) := TSame.lst h9f
        refine ⟨keep_upd h2f (g8.trans g9) _, (t8.trans g9.t).trans tA, by rw [upd_ne nrf]; exact g9 _ _ h8r, by rw [upd_ne n7f]; exact g9 _ _ h87, zs' ++ [.ref t9], _, _, _, by rw [upd_ne ntf]; exact g9 _ _ h8t, by rw [upd_ne nmf]; exact g9 _ _ h8m, upd_same, (hE8.map fun p d m z => (z.mono g9).upd (.inr (.inr rfl)) fun xs y => (by rw [h9f] at y; cases y)), ?_, rfl⟩
        rw [List.take_add_one, em, List.map_append, ← List.append_assoc]
        exact paired_app (hz8.mono (g9.t.trans tA)) (.cons ⟨t9, mp, rfl, tA _ _ e9, tA _ _ (g9 _ _ m2)⟩ .nil)
      · rintro σ' H8 ⟨g8, t8, h8r, h87, zs', v8, v9, v10, h8t, h8m, h8f, hE8, hz8, rfl⟩
        rw [← xl, List.take_length] at hz8
        exact ⟨g8, ((t5.trans t6).trans g7.t).trans t8, h8r, kt, km, zs', _, _, _, _, _, _, h8t, h8m, h8f, by omega, by omega, hE8, hz8, rfl⟩
  · rintro σ' H5 ⟨g5, t5, hr5, kt, km, zs, u5, u6, u7, u8, u9, u10, h5t, h5m, h5f, ltk, lmk, hE, hzs, rfl⟩
    rw [← rl, List.take_length] at hzs
    exact ⟨_, rfl, q fl zs H5 (g1.trans g5) (g1.free h2f) h5f hzs⟩
end
end D
namespace D
open PySem L2
theorem mb_more {T : Tab (List Int)} {W : List Str} : ∀ (f k : Nat), W.length ≤ f + k → mbD T W (f + 1) k = mbD T W f k
  | 0, k, h => by rw [mbD_out (by omega), mbD_out (by omega)]
  | f + 1, k, h => by
    have ih := mb_more (T := T) (W := W) f (k + max (dueN W k (keysA T)) 1) (by omega)
    show (if k < W.length then mb1 T W k ++ mbD T W (f + 1) (k + max (dueN W k (keysA T)) 1) else []) = (if k < W.length then mb1 T W k ++ mbD T W f (k + max (dueN W k (keysA T)) 1) else [])
    rw [ih]
theorem mkOne_map (T : Tab (List Int)) (n : Int) (W : List Str) (k : Nat) : mkOne T n W k = (mb1 T W k).map fun m => (n, m.1, m.2.1, m.2.2) := by
  unfold mkOne mb1
  by_cases h : 0 < dueN W k (keysA T)
  · rw [if_pos h, if_pos h]
    rfl
  · rw [if_neg h, if_neg h]
    rfl
theorem mkFuel_map (T : Tab (List Int)) (n : Int) (W : List Str) : ∀ f k : Nat, mkFuel T n W f k = (mbD T W f k).map fun m => (n, m.1, m.2.1, m.2.2)
  | 0, _ => rfl
  | f + 1, k => by
    show (if k < W.length then mkOne T n W k ++ mkFuel T n W f (k + max (dueN W k (keysA T)) 1) else []) = (if k < W.length then mb1 T W k ++ mbD T W f (k + max (dueN W k (keysA T)) 1) else []).map _
    by_cases h : k < W.length
    · rw [if_pos h, if_pos h, mkOne_map, mkFuel_map T n W f, List.map_append]
    · rw [if_neg h, if_neg h]
      rfl
theorem rmF_map (ts : List Tl) : ∀ (f : L2.F) (p : List Int), rmF ts f p = ((ordP p f).flatMap rowO).map fun r => (r.1, r.2.1, winD r.2.2 ts)
  | .nil, _ => rfl
  | .say n ws r, p => by
    show (n, ws, winD p ts) :: rmF ts r p = _
    rw [rmF_map ts r p]
    rfl
  | .tell n sc ph bs ms r, p => by
    show (n, ms, winD p ts) :: rmF ts r p = _
    rw [rmF_map ts r p]
    rfl
  | .part n i r, p => by
    show rmF ts i (p ++ [n]) ++ rmF ts r p = (((p, Th.part n i) :: (ordP (p ++ [n]) i ++ ordP p r)).flatMap rowO).map _
    rw [rmF_map ts i (p ++ [n]), rmF_map ts r p, List.flatMap_cons, List.flatMap_append, ← List.map_append]
    rfl
theorem mk_marks (f : L2.F) : mkD f = marksD f := by
  unfold mkD marksD rowsD
  rw [rmF_map, List.flatMap_map]
  congr 1
  funext r
  show (mbD (winD r.2.2 (tlsF f [0])) r.2.1 r.2.1.length 0).map _ = mkFuel (winD r.2.2 (tlsF f [0])) r.1 r.2.1 (r.2.1.length + 1) 0
  rw [mkFuel_map, mb_more _ _ (by omega)]
theorem DocK.toQ {ws : List Str} {f : L2.F} (h : DocK ws f) : DocQ [] ws f 12 := ⟨h.dep, h.nd, h.few, h.ok, fun t ht => (h.pos t ht).1⟩
section
variable {P : Program} {w : World} {K : PySem.W.Frag} {mg : Str → Option Value} {base : Heap} {f : Addr} {fd : FuncData} {CM : Addr}
theorem ok_mks2 {fI : Addr} {fdI : FuncData} (F : Fun K "marks" "marks" s_marks f fd) (T : Nm mg) (GTO : Def P w K mg base CX0 22 "tellings_of" ["doc"] spTO) (GRW : Def P w K mg base CX0 22 "rows_with_homes" ["doc"] spRws3) (GTA : Def P w K mg base CX0 2 "told_at" ["tellings", "place"] spTAt) (GMB : Def P w K mg base CX0 21 "marks_by" ["machine", "told", "words"] (spMB CM))
    (mM : mg "Machine" = some (.ref CM)) (M : L2.Mk K CM fI) (FI : FnOk P w K mg base CX0 20 fI fdI ["self", "phrases"] (spMake CM (MR CM))) (bI : Binds K fdI ["self", "phrases"] []) : FnOk P w K mg base CX0 23 f fd ["doc"] spMarks :=
  (ok_mks F T GTO GRW GTA GMB mM M FI bI).imp fun vs H Q E ⟨v, fo, e, hv, ⟨ws, hm, hD⟩, q⟩ => ⟨v, fo, [], ws, e, hv, hD.toQ, hm, fun r xs H' g hr er hx => q r xs H' g hr er (by rw [mk_marks] at hx; exact hx)⟩
end
end D
namespace D
open PySem L2
set_option maxHeartbeats 4000000 in
theorem all_mk {l : PySem.W.OpenLaw} {w : World} {K : PySem.W.Frag} {h : Heap} {mg : Str → Option Value} {fa CM f1 f2 f3 f4 f5 f6 f7 f8 f9 f10 f11 f12 f13 f14 f15 f16 f17 f18 f19 f20 f21 f22 f23 f24 f25 f26 f27 f28 f29 f30 : Addr} (X : K.In h) (G : h.Ns mainGlobals mg) (hfa : mg "law" = some (.ref fa))
    {od1 an1 od2 an2 od3 an3 od4 an4 od5 an5 od6 an6 od7 an7 od8 an8 od9 an9 od10 an10 od11 an11 od12 an12 od13 an13 od14 an14 od15 an15 od16 an16 od17 an17 od18 an18 od19 an19 od20 an20 od21 an21 od22 an22 od23 an23 od24 an24 od25 an25 od26 an26 od27 an27 od28 an28 od29 an29 od30 an30 : Option Addr} {sl1 sl2 sl3 sl4 sl5 sl6 sl7 sl8 sl9 sl10 sl11 sl12 sl13 sl14 sl15 sl16 sl17 sl18 sl19 sl20 sl21 sl22 sl23 sl24 sl25 sl26 sl27 sl28 sl29 sl30 : Array (Option Value)} {oc1 kV1 dc1 pm1 cd1 ct1 oc2 kV2 dc2 pm2 cd2 ct2 oc3 kV3 dc3 pm3 cd3 ct3 oc4 kV4 dc4 pm4 cd4 ct4 oc5 kV5 dc5 pm5 cd5 ct5 oc6 kV6 dc6 pm6 cd6 ct6 oc7 kV7 dc7 pm7 cd7 ct7 oc8 kV8 dc8 pm8 cd8 ct8 oc9 kV9 dc9 pm9 cd9 ct9 oc10 kV10 dc10 pm10 cd10 ct10 oc11 kV11 dc11 pm11 cd11 ct11 oc12 kV12 dc12 pm12 cd12 ct12 oc13 kV13 dc13 pm13 cd13 ct13 oc14 kV14 dc14 pm14 cd14 ct14 oc15 kV15 dc15 pm15 cd15 ct15 oc16 kV16 dc16 pm16 cd16 ct16 oc17 kV17 dc17 pm17 cd17 ct17 oc18 kV18 dc18 pm18 cd18 ct18 oc19 kV19 dc19 pm19 cd19 ct19 oc20 kV20 dc20 pm20 cd20 ct20 oc21 kV21 dc21 pm21 cd21 ct21 oc22 kV22 dc22 pm22 cd22 ct22 oc23 kV23 dc23 pm23 cd23 ct23 oc24 kV24 dc24 pm24 cd24 ct24 oc25 kV25 dc25 pm25 cd25 ct25 oc26 kV26 dc26 pm26 cd26 ct26 oc27 kV27 dc27 pm27 cd27 ct27 oc28 kV28 dc28 pm28 cd28 ct28 oc29 kV29 dc29 pm29 cd29 ct29 oc30 kV30 dc30 pm30 cd30 ct30 : Value} {tk0 tk1 tk2 tk3 tk4 tk5 : Tok}
    (a1 : PySem.W.nsIn K mainGlobals "is_word" = some (some (.ref f1))) (l1 : K.lookup f1 = some ⟨oc1, od1, .func (PySem.W.fnOf "is_word" "is_word" (defArgs s_is_word) (defBody s_is_word) (defScope s_is_word) .none kV1 dc1 pm1 an1 cd1 ct1), sl1⟩) (c1 : PySem.W.codeIn K cd1 "is_word" = true) (k1 : PySem.W.keepIn K (.ref f1) = true)
    (a2 : PySem.W.nsIn K mainGlobals "bent" = some (some (.ref f2))) (l2 : K.lookup f2 = some ⟨oc2, od2, .func (PySem.W.fnOf "bent" "bent" (defArgs s_bent) (defBody s_bent) (defScope s_bent) .none kV2 dc2 pm2 an2 cd2 ct2), sl2⟩) (c2 : PySem.W.codeIn K cd2 "bent" = true) (k2 : PySem.W.keepIn K (.ref f2) = true)
    (a3 : PySem.W.nsIn K mainGlobals "forms" = some (some (.ref f3))) (l3 : K.lookup f3 = some ⟨oc3, od3, .func (PySem.W.fnOf "forms" "forms" (defArgs s_forms) (defBody s_forms) (defScope s_forms) .none kV3 dc3 pm3 an3 cd3 ct3), sl3⟩) (c3 : PySem.W.codeIn K cd3 "forms" = true) (k3 : PySem.W.keepIn K (.ref f3) = true)
    (a4 : PySem.W.nsIn K mainGlobals "state_behind" = some (some (.ref f4))) (l4 : K.lookup f4 = some ⟨oc4, od4, .func (PySem.W.fnOf "state_behind" "state_behind" (defArgs s_state_behind) (defBody s_state_behind) (defScope s_state_behind) .none kV4 dc4 pm4 an4 cd4 ct4), sl4⟩) (c4 : PySem.W.codeIn K cd4 "state_behind" = true) (k4 : PySem.W.keepIn K (.ref f4) = true)
    (a5 : PySem.W.nsIn K mainGlobals "strength" = some (some (.ref f5))) (l5 : K.lookup f5 = some ⟨oc5, od5, .func (PySem.W.fnOf "strength" "strength" (defArgs s_strength) (defBody s_strength) (defScope s_strength) .none kV5 dc5 pm5 an5 cd5 ct5), sl5⟩) (c5 : PySem.W.codeIn K cd5 "strength" = true) (k5 : PySem.W.keepIn K (.ref f5) = true)
    (a6 : PySem.W.nsIn K mainGlobals "things_with_homes" = some (some (.ref f6))) (l6 : K.lookup f6 = some ⟨oc6, od6, .func (PySem.W.fnOf "things_with_homes" "things_with_homes" (defArgs s_things_with_homes) (defBody s_things_with_homes) (defScope s_things_with_homes) .none kV6 dc6 pm6 an6 cd6 ct6), sl6⟩) (c6 : PySem.W.codeIn K cd6 "things_with_homes" = true) (k6 : PySem.W.keepIn K (.ref f6) = true)
    (a7 : PySem.W.nsIn K mainGlobals "rows_with_homes" = some (some (.ref f7))) (l7 : K.lookup f7 = some ⟨oc7, od7, .func (PySem.W.fnOf "rows_with_homes" "rows_with_homes" (defArgs s_rows_with_homes) (defBody s_rows_with_homes) (defScope s_rows_with_homes) .none kV7 dc7 pm7 an7 cd7 ct7), sl7⟩) (c7 : PySem.W.codeIn K cd7 "rows_with_homes" = true) (k7 : PySem.W.keepIn K (.ref f7) = true)
    (a8 : PySem.W.nsIn K mainGlobals "tellings_of" = some (some (.ref f8))) (l8 : K.lookup f8 = some ⟨oc8, od8, .func (PySem.W.fnOf "tellings_of" "tellings_of" (defArgs s_tellings_of) (defBody s_tellings_of) (defScope s_tellings_of) .none kV8 dc8 pm8 an8 cd8 ct8), sl8⟩) (c8 : PySem.W.codeIn K cd8 "tellings_of" = true) (k8 : PySem.W.keepIn K (.ref f8) = true)
    (a9 : PySem.W.nsIn K mainGlobals "told_at" = some (some (.ref f9))) (l9 : K.lookup f9 = some ⟨oc9, od9, .func (PySem.W.fnOf "told_at" "told_at" (defArgs s_told_at) (defBody s_told_at) (defScope s_told_at) .none kV9 dc9 pm9 an9 cd9 ct9), sl9⟩) (c9 : PySem.W.codeIn K cd9 "told_at" = true) (k9 : PySem.W.keepIn K (.ref f9) = true)
    (a10 : PySem.W.nsIn K mainGlobals "marks_by" = some (some (.ref f10))) (l10 : K.lookup f10 = some ⟨oc10, od10, .func (PySem.W.fnOf "marks_by" "marks_by" (defArgs s_marks_by) (defBody s_marks_by) (defScope s_marks_by) .none kV10 dc10 pm10 an10 cd10 ct10), sl10⟩) (c10 : PySem.W.codeIn K cd10 "marks_by" = true) (k10 : PySem.W.keepIn K (.ref f10) = true)
    (a11 : PySem.W.nsIn K mainGlobals "marks" = some (some (.ref f11))) (l11 : K.lookup f11 = some ⟨oc11, od11, .func (PySem.W.fnOf "marks" "marks" (defArgs s_marks) (defBody s_marks) (defScope s_marks) .none kV11 dc11 pm11 an11 cd11 ct11), sl11⟩) (c11 : PySem.W.codeIn K cd11 "marks" = true) (k11 : PySem.W.keepIn K (.ref f11) = true)
    (a12 : PySem.W.nsIn K mainGlobals "_law_cell" = some (some (.ref f12))) (l12 : K.lookup f12 = some ⟨oc12, od12, .func (PySem.W.fnOf "_law_cell" "_law_cell" (defArgs s_l_cell) (defBody s_l_cell) (defScope s_l_cell) .none kV12 dc12 pm12 an12 cd12 ct12), sl12⟩) (c12 : PySem.W.codeIn K cd12 "_law_cell" = true) (k12 : PySem.W.keepIn K (.ref f12) = true)
    (a13 : PySem.W.nsIn K mainGlobals "_law_signs" = some (some (.ref f13))) (l13 : K.lookup f13 = some ⟨oc13, od13, .func (PySem.W.fnOf "_law_signs" "_law_signs" (defArgs s_l_signs) (defBody s_l_signs) (defScope s_l_signs) .none kV13 dc13 pm13 an13 cd13 ct13), sl13⟩) (c13 : PySem.W.codeIn K cd13 "_law_signs" = true) (k13 : PySem.W.keepIn K (.ref f13) = true)
    (a14 : PySem.W.nsIn K mainGlobals "_law_menu" = some (some (.ref f14))) (l14 : K.lookup f14 = some ⟨oc14, od14, .func (PySem.W.fnOf "_law_menu" "_law_menu" (defArgs s_l_menu) (defBody s_l_menu) (defScope s_l_menu) .none kV14 dc14 pm14 an14 cd14 ct14), sl14⟩) (c14 : PySem.W.codeIn K cd14 "_law_menu" = true) (k14 : PySem.W.keepIn K (.ref f14) = true)
    (a15 : PySem.W.nsIn K mainGlobals "_law_row" = some (some (.ref f15))) (l15 : K.lookup f15 = some ⟨oc15, od15, .func (PySem.W.fnOf "_law_row" "_law_row" (defArgs s_l_row) (defBody s_l_row) (defScope s_l_row) .none kV15 dc15 pm15 an15 cd15 ct15), sl15⟩) (c15 : PySem.W.codeIn K cd15 "_law_row" = true) (k15 : PySem.W.keepIn K (.ref f15) = true)
    (a16 : PySem.W.nsIn K mainGlobals "_law_bends" = some (some (.ref f16))) (l16 : K.lookup f16 = some ⟨oc16, od16, .func (PySem.W.fnOf "_law_bends" "_law_bends" (defArgs s_l_bends) (defBody s_l_bends) (defScope s_l_bends) .none kV16 dc16 pm16 an16 cd16 ct16), sl16⟩) (c16 : PySem.W.codeIn K cd16 "_law_bends" = true) (k16 : PySem.W.keepIn K (.ref f16) = true)
    (a17 : PySem.W.nsIn K mainGlobals "_law_told" = some (some (.ref f17))) (l17 : K.lookup f17 = some ⟨oc17, od17, .func (PySem.W.fnOf "_law_told" "_law_told" (defArgs s_l_told) (defBody s_l_told) (defScope s_l_told) .none kV17 dc17 pm17 an17 cd17 ct17), sl17⟩) (c17 : PySem.W.codeIn K cd17 "_law_told" = true) (k17 : PySem.W.keepIn K (.ref f17) = true)
    (a18 : PySem.W.nsIn K mainGlobals "_law_number" = some (some (.ref f18))) (l18 : K.lookup f18 = some ⟨oc18, od18, .func (PySem.W.fnOf "_law_number" "_law_number" (defArgs s_l_number) (defBody s_l_number) (defScope s_l_number) .none kV18 dc18 pm18 an18 cd18 ct18), sl18⟩) (c18 : PySem.W.codeIn K cd18 "_law_number" = true) (k18 : PySem.W.keepIn K (.ref f18) = true)
    (a19 : PySem.W.nsIn K mainGlobals "_law_doc" = some (some (.ref f19))) (l19 : K.lookup f19 = some ⟨oc19, od19, .func (PySem.W.fnOf "_law_doc" "_law_doc" (defArgs s_l_doc) (defBody s_l_doc) (defScope s_l_doc) .none kV19 dc19 pm19 an19 cd19 ct19), sl19⟩) (c19 : PySem.W.codeIn K cd19 "_law_doc" = true) (k19 : PySem.W.keepIn K (.ref f19) = true)
    (a20 : PySem.W.nsIn K mainGlobals "_law_shapes" = some (some (.ref f20))) (l20 : K.lookup f20 = some ⟨oc20, od20, .func (PySem.W.fnOf "_law_shapes" "_law_shapes" (defArgs s_l_shapes) (defBody s_l_shapes) (defScope s_l_shapes) .none kV20 dc20 pm20 an20 cd20 ct20), sl20⟩) (c20 : PySem.W.codeIn K cd20 "_law_shapes" = true) (k20 : PySem.W.keepIn K (.ref f20) = true)
    (a21 : PySem.W.nsIn K mainGlobals "_law_tellings" = some (some (.ref f21))) (l21 : K.lookup f21 = some ⟨oc21, od21, .func (PySem.W.fnOf "_law_tellings" "_law_tellings" (defArgs s_l_tellings) (defBody s_l_tellings) (defScope s_l_tellings) .none kV21 dc21 pm21 an21 cd21 ct21), sl21⟩) (c21 : PySem.W.codeIn K cd21 "_law_tellings" = true) (k21 : PySem.W.keepIn K (.ref f21) = true)
    (a22 : PySem.W.nsIn K mainGlobals "_law_force" = some (some (.ref f22))) (l22 : K.lookup f22 = some ⟨oc22, od22, .func (PySem.W.fnOf "_law_force" "_law_force" (defArgs s_l_force) (defBody s_l_force) (defScope s_l_force) .none kV22 dc22 pm22 an22 cd22 ct22), sl22⟩) (c22 : PySem.W.codeIn K cd22 "_law_force" = true) (k22 : PySem.W.keepIn K (.ref f22) = true)
    (a23 : PySem.W.nsIn K mainGlobals "_law_winners" = some (some (.ref f23))) (l23 : K.lookup f23 = some ⟨oc23, od23, .func (PySem.W.fnOf "_law_winners" "_law_winners" (defArgs s_l_winners) (defBody s_l_winners) (defScope s_l_winners) .none kV23 dc23 pm23 an23 cd23 ct23), sl23⟩) (c23 : PySem.W.codeIn K cd23 "_law_winners" = true) (k23 : PySem.W.keepIn K (.ref f23) = true)
    (a24 : PySem.W.nsIn K mainGlobals "_law_longest" = some (some (.ref f24))) (l24 : K.lookup f24 = some ⟨oc24, od24, .func (PySem.W.fnOf "_law_longest" "_law_longest" (defArgs s_l_longest) (defBody s_l_longest) (defScope s_l_longest) .none kV24 dc24 pm24 an24 cd24 ct24), sl24⟩) (c24 : PySem.W.codeIn K cd24 "_law_longest" = true) (k24 : PySem.W.keepIn K (.ref f24) = true)
    (a25 : PySem.W.nsIn K mainGlobals "_law_rows" = some (some (.ref f25))) (l25 : K.lookup f25 = some ⟨oc25, od25, .func (PySem.W.fnOf "_law_rows" "_law_rows" (defArgs s_l_rows) (defBody s_l_rows) (defScope s_l_rows) .none kV25 dc25 pm25 an25 cd25 ct25), sl25⟩) (c25 : PySem.W.codeIn K cd25 "_law_rows" = true) (k25 : PySem.W.keepIn K (.ref f25) = true)
    (a26 : PySem.W.nsIn K mainGlobals "_law_whole" = some (some (.ref f26))) (l26 : K.lookup f26 = some ⟨oc26, od26, .func (PySem.W.fnOf "_law_whole" "_law_whole" (defArgs s_l_whole) (defBody s_l_whole) (defScope s_l_whole) .none kV26 dc26 pm26 an26 cd26 ct26), sl26⟩) (c26 : PySem.W.codeIn K cd26 "_law_whole" = true) (k26 : PySem.W.keepIn K (.ref f26) = true)
    (a27 : PySem.W.nsIn K mainGlobals "_law_kinds" = some (some (.ref f27))) (l27 : K.lookup f27 = some ⟨oc27, od27, .func (PySem.W.fnOf "_law_kinds" "_law_kinds" (defArgs s_l_kinds) (defBody s_l_kinds) (defScope s_l_kinds) .none kV27 dc27 pm27 an27 cd27 ct27), sl27⟩) (c27 : PySem.W.codeIn K cd27 "_law_kinds" = true) (k27 : PySem.W.keepIn K (.ref f27) = true)
    (a28 : PySem.W.nsIn K mainGlobals "_law_row_marked" = some (some (.ref f28))) (l28 : K.lookup f28 = some ⟨oc28, od28, .func (PySem.W.fnOf "_law_row_marked" "_law_row_marked" (defArgs s_l_row_marked) (defBody s_l_row_marked) (defScope s_l_row_marked) .none kV28 dc28 pm28 an28 cd28 ct28), sl28⟩) (c28 : PySem.W.codeIn K cd28 "_law_row_marked" = true) (k28 : PySem.W.keepIn K (.ref f28) = true)
    (a29 : PySem.W.nsIn K mainGlobals "_law_walked" = some (some (.ref f29))) (l29 : K.lookup f29 = some ⟨oc29, od29, .func (PySem.W.fnOf "_law_walked" "_law_walked" (defArgs s_l_walked) (defBody s_l_walked) (defScope s_l_walked) .none kV29 dc29 pm29 an29 cd29 ct29), sl29⟩) (c29 : PySem.W.codeIn K cd29 "_law_walked" = true) (k29 : PySem.W.keepIn K (.ref f29) = true)
    (a30 : PySem.W.nsIn K mainGlobals "law" = some (some (.ref f30))) (l30 : K.lookup f30 = some ⟨oc30, od30, .func (PySem.W.fnOf "law" "law" (defArgs s_law) (defBody s_law) (defScope s_law) .none kV30 dc30 pm30 an30 cd30 ct30), sl30⟩) (c30 : PySem.W.codeIn K cd30 "law" = true) (k30 : PySem.W.keepIn K (.ref f30) = true)
    (g1 : PySem.W.nsIn K mainGlobals "MOST_SIGNS" = some (some (.int 20 tk0))) (g2 : PySem.W.nsIn K mainGlobals "STRENGTH_ELSE" = some (some (.int 0 tk1))) (g3 : PySem.W.nsIn K mainGlobals "STRENGTH_ALL" = some (some (.int 1 tk2))) (g4 : PySem.W.nsIn K mainGlobals "STRENGTH_HERE" = some (some (.int 100 tk3))) (g5 : PySem.W.nsIn K mainGlobals "GOVERNS_NOT" = some (some (.int (-1) tk4))) (g6 : PySem.W.nsIn K mainGlobals "WORD_SIGNS" = some (some (.str W62 tk5)))
    (z1 : PySem.W.nsIn K mainGlobals "len" = some none) (z2 : PySem.W.nsIn K mainGlobals "range" = some none) (z3 : PySem.W.nsIn K mainGlobals "int" = some none) (z4 : PySem.W.nsIn K mainGlobals "tuple" = some none) (z5 : PySem.W.nsIn K mainGlobals "list" = some none) (z6 : PySem.W.nsIn K mainGlobals "max" = some none) (z7 : PySem.W.nsIn K mainGlobals "min" = some none) (z8 : PySem.W.nsIn K mainGlobals "isinstance" = some none) (z9 : PySem.W.nsIn K mainGlobals "str" = some none) (z10 : PySem.W.nsIn K mainGlobals "all" = some none) (z11 : PySem.W.nsIn K mainGlobals "sorted" = some none) (z12 : PySem.W.nsIn K mainGlobals "bool" = some none)
    (y1 : PySem.W.nsIn K mainGlobals "Machine" = some (some (.ref CM)))
    (kb : PySem.W.kitOne K (.type "int") (.type "bool") = some false) (ki : PySem.W.kitOne K (.type "int") (.type "int") = some true) (kS : PySem.W.kitOne K (.type "str") (.type "str") = some true) {fI fL : Addr} {odI anI : Option Addr} {slI : Array (Option Value)} {ocI kVI dcI pmI cdI ctI : Value} {odL anL : Option Addr} {slL : Array (Option Value)} {ocL kVL dcL pmL cdL ctL : Value} (jI : PySem.W.findIn K (.ref CM) "__init__" = some (some (.ref fI))) (lI : K.lookup fI = some ⟨ocI, odI, .func (PySem.W.fnOf "__init__" "Machine.__init__" (defArgs s_minit) (defBody s_minit) (defScope s_minit) .none kVI dcI pmI anI cdI ctI), slI⟩) (cI : PySem.W.codeIn K cdI "Machine.__init__" = true) (kI : PySem.W.keepIn K (.ref fI) = true) (iI : PySem.W.isFn K (.ref fI) = true) (jL : PySem.W.findIn K (.ref CM) "longest" = some (some (.ref fL))) (lL : K.lookup fL = some ⟨ocL, odL, .func (PySem.W.fnOf "longest" "Machine.longest" (defArgs s_mlong) (defBody s_mlong) (defScope s_mlong) .none kVL dcL pmL anL cdL ctL), slL⟩) (cL : PySem.W.codeIn K cdL "Machine.longest" = true) (kL : PySem.W.keepIn K (.ref fL) = true) (iL : PySem.W.isFn K (.ref fL) = true) (mk : PySem.W.makesIn K CM = true) (kC : PySem.W.keepIn K (.ref CM) = true) (pg : PySem.W.plainGet K CM Str.empty = true) (hd : PySem.W.hasDictIn K CM = true) (po : PySem.W.plainOver K CM = true) (sa : PySem.W.findIn K (.ref CM) "__setattr__" = some (some (.builtin "object.__setattr__"))) (nS : PySem.W.findIn K (.ref CM) "steps" = some none) (nE : PySem.W.findIn K (.ref CM) "ends" = some none) (kl : PySem.W.kitOne K (.type "list") (.type "list") = some true) (kt : PySem.W.kitOne K (.type "tuple") (.type "tuple") = some true)
    : ∃ fd : FuncData, (∀ (s : Shared) (v : Value), BindsTo s fd ⟨[v], []⟩ [("_law_script", v)]) ∧ ∀ base : Heap, K.In base → base.Ns mainGlobals mg → FnOk l.prog w K mg base CX0 24 fa fd ["_law_script"] (spLaw K) := by
  have e := hfa.symm.trans (PySem.W.mg_of X G a30)
  cases e
  have nz_len := PySem.W.mg_none_of X G z1
  have nz_range := PySem.W.mg_none_of X G z2
  have nz_int := PySem.W.mg_none_of X G z3
  have nz_tuple := PySem.W.mg_none_of X G z4
  have nz_list := PySem.W.mg_none_of X G z5
  have nz_max := PySem.W.mg_none_of X G z6
  have nz_min := PySem.W.mg_none_of X G z7
  have nz_isinstance := PySem.W.mg_none_of X G z8
  have nz_str := PySem.W.mg_none_of X G z9
  have nz_all := PySem.W.mg_none_of X G z10
  have nz_sorted := PySem.W.mg_none_of X G z11
  have nz_bool := PySem.W.mg_none_of X G z12
  have ng_MOST_SIGNS := PySem.W.mg_of X G g1
  have ng_STRENGTH_ELSE := PySem.W.mg_of X G g2
  have ng_STRENGTH_ALL := PySem.W.mg_of X G g3
  have ng_STRENGTH_HERE := PySem.W.mg_of X G g4
  have ng_GOVERNS_NOT := PySem.W.mg_of X G g5
  have ng_WORD_SIGNS := PySem.W.mg_of X G g6
  have ny_Machine := PySem.W.mg_of X G y1
  have F_is_word := fun_mk (st := s_is_word) l1 c1 k1
  have F_bent := fun_mk (st := s_bent) l2 c2 k2
  have F_forms := fun_mk (st := s_forms) l3 c3 k3
  have F_state_behind := fun_mk (st := s_state_behind) l4 c4 k4
  have F_strength := fun_mk (st := s_strength) l5 c5 k5
  have F_things_with_homes := fun_mk (st := s_things_with_homes) l6 c6 k6
  have F_rows_with_homes := fun_mk (st := s_rows_with_homes) l7 c7 k7
  have F_tellings_of := fun_mk (st := s_tellings_of) l8 c8 k8
  have F_told_at := fun_mk (st := s_told_at) l9 c9 k9
  have F_marks_by := fun_mk (st := s_marks_by) l10 c10 k10
  have F_marks := fun_mk (st := s_marks) l11 c11 k11
  have F__law_cell := fun_mk (st := s_l_cell) l12 c12 k12
  have F__law_signs := fun_mk (st := s_l_signs) l13 c13 k13
  have F__law_menu := fun_mk (st := s_l_menu) l14 c14 k14
  have F__law_row := fun_mk (st := s_l_row) l15 c15 k15
  have F__law_bends := fun_mk (st := s_l_bends) l16 c16 k16
  have F__law_told := fun_mk (st := s_l_told) l17 c17 k17
  have F__law_number := fun_mk (st := s_l_number) l18 c18 k18
  have F__law_doc := fun_mk (st := s_l_doc) l19 c19 k19
  have F__law_shapes := fun_mk (st := s_l_shapes) l20 c20 k20
  have F__law_tellings := fun_mk (st := s_l_tellings) l21 c21 k21
  have F__law_force := fun_mk (st := s_l_force) l22 c22 k22
  have F__law_winners := fun_mk (st := s_l_winners) l23 c23 k23
  have F__law_longest := fun_mk (st := s_l_longest) l24 c24 k24
  have F__law_rows := fun_mk (st := s_l_rows) l25 c25 k25
  have F__law_whole := fun_mk (st := s_l_whole) l26 c26 k26
  have F__law_kinds := fun_mk (st := s_l_kinds) l27 c27 k27
  have F__law_row_marked := fun_mk (st := s_l_row_marked) l28 c28 k28
  have F__law_walked := fun_mk (st := s_l_walked) l29 c29 k29
  have F_law := fun_mk (st := s_law) l30 c30 k30
  have b_is_word := F_is_word.binds (ps := ["thing"]) fun _ _ _ _ _ _ us hl => match us, hl with | [_], _ => rfl
  have b_bent := F_bent.binds (ps := ["phrase", "bend"]) fun _ _ _ _ _ _ us hl => match us, hl with | [_, _], _ => rfl
  have b_forms := F_forms.binds (ps := ["phrase", "bends"]) fun _ _ _ _ _ _ us hl => match us, hl with | [_, _], _ => rfl
  have b_state_behind := F_state_behind.binds (ps := ["steps", "phrase"]) fun _ _ _ _ _ _ us hl => match us, hl with | [_, _], _ => rfl
  have b_strength := F_strength.binds (ps := ["scope", "told", "place"]) fun _ _ _ _ _ _ us hl => match us, hl with | [_, _, _], _ => rfl
  have b_things_with_homes := F_things_with_homes.binds (ps := ["part", "path"]) fun _ _ _ _ _ _ us hl => match us, hl with | [_, _], _ => rfl
  have b_rows_with_homes := F_rows_with_homes.binds (ps := ["doc"]) fun _ _ _ _ _ _ us hl => match us, hl with | [_], _ => rfl
  have b_tellings_of := F_tellings_of.binds (ps := ["doc"]) fun _ _ _ _ _ _ us hl => match us, hl with | [_], _ => rfl
  have b_told_at := F_told_at.binds (ps := ["tellings", "place"]) fun _ _ _ _ _ _ us hl => match us, hl with | [_, _], _ => rfl
  have b_marks_by := F_marks_by.binds (ps := ["machine", "told", "words"]) fun _ _ _ _ _ _ us hl => match us, hl with | [_, _, _], _ => rfl
  have b_marks := F_marks.binds (ps := ["doc"]) fun _ _ _ _ _ _ us hl => match us, hl with | [_], _ => rfl
  have b__law_cell := F__law_cell.binds (ps := ["_law_script", "_law_k"]) fun _ _ _ _ _ _ us hl => match us, hl with | [_, _], _ => rfl
  have b__law_signs := F__law_signs.binds (ps := ["_law_cell_here", "_law_free"]) fun _ _ _ _ _ _ us hl => match us, hl with | [_, _], _ => rfl
  have b__law_menu := F__law_menu.binds (ps := ["_law_script", "_law_free"]) fun _ _ _ _ _ _ us hl => match us, hl with | [_, _], _ => rfl
  have b__law_row := F__law_row.binds (ps := ["_law_menu_here", "_law_cell_here", "_law_size", "_law_free"]) fun _ _ _ _ _ _ us hl => match us, hl with | [_, _, _, _], _ => rfl
  have b__law_bends := F__law_bends.binds (ps := ["_law_menu_here", "_law_last", "_law_cell_here"]) fun _ _ _ _ _ _ us hl => match us, hl with | [_, _, _], _ => rfl
  have b__law_told := F__law_told.binds (ps := ["_law_menu_here", "_law_number_here", "_law_cell_here", "_law_more", "_law_free"]) fun _ _ _ _ _ _ us hl => match us, hl with | [_, _, _, _, _], _ => rfl
  have b__law_number := F__law_number.binds (ps := ["_law_script", "_law_k"]) fun _ _ _ _ _ _ us hl => match us, hl with | [_, _], _ => rfl
  have b__law_doc := F__law_doc.binds (ps := ["_law_script", "_law_menu_here", "_law_most", "_law_free"]) fun _ _ _ _ _ _ us hl => match us, hl with | [_, _, _, _], _ => rfl
  have b__law_shapes := F__law_shapes.binds (ps := ["_law_thing"]) fun _ _ _ _ _ _ us hl => match us, hl with | [_], _ => rfl
  have b__law_tellings := F__law_tellings.binds (ps := ["_law_things", "_law_path"]) fun _ _ _ _ _ _ us hl => match us, hl with | [_, _], _ => rfl
  have b__law_force := F__law_force.binds (ps := ["_law_scope", "_law_path", "_law_place"]) fun _ _ _ _ _ _ us hl => match us, hl with | [_, _, _], _ => rfl
  have b__law_winners := F__law_winners.binds (ps := ["_law_tellings_here", "_law_place"]) fun _ _ _ _ _ _ us hl => match us, hl with | [_, _], _ => rfl
  have b__law_longest := F__law_longest.binds (ps := ["_law_told_here", "_law_words", "_law_at"]) fun _ _ _ _ _ _ us hl => match us, hl with | [_, _, _], _ => rfl
  have b__law_rows := F__law_rows.binds (ps := ["_law_part", "_law_path", "_law_tellings_here"]) fun _ _ _ _ _ _ us hl => match us, hl with | [_, _, _], _ => rfl
  have b__law_whole := F__law_whole.binds (ps := ["_law_found"]) fun _ _ _ _ _ _ us hl => match us, hl with | [_], _ => rfl
  have b__law_kinds := F__law_kinds.binds (ps := ["_law_found"]) fun _ _ _ _ _ _ us hl => match us, hl with | [_], _ => rfl
  have b__law_row_marked := F__law_row_marked.binds (ps := ["_law_row_here", "_law_found", "_law_at"]) fun _ _ _ _ _ _ us hl => match us, hl with | [_, _, _], _ => rfl
  have b__law_walked := F__law_walked.binds (ps := ["_law_doc_here", "_law_found"]) fun _ _ _ _ _ _ us hl => match us, hl with | [_, _], _ => rfl
  refine ⟨PySem.W.fnOf "law" "law" (defArgs s_law) (defBody s_law) (defScope s_law) .none kV30 dc30 pm30 an30 cd30 ct30, fun s v => .of_eq rfl, fun base _ _ => ?_⟩
  have T : Nm mg := ⟨nz_len, nz_range, nz_int, nz_tuple, nz_list, nz_max, nz_min, nz_isinstance⟩
  have TW : Tw K mg := ⟨nz_len, nz_isinstance, nz_str, nz_all, nz_tuple, ⟨_, ng_MOST_SIGNS⟩, ⟨_, ng_WORD_SIGNS⟩, kS⟩
  have TS : NmS mg := ⟨⟨_, ng_STRENGTH_ELSE⟩, ⟨_, ng_STRENGTH_ALL⟩, ⟨_, ng_STRENGTH_HERE⟩, ⟨_, ng_GOVERNS_NOT⟩⟩
  have c : Cls K CM := ⟨pg, hd, po, sa⟩
  have n1 : NoAttr K CM "steps" := nS
  have n2 : NoAttr K CM "ends" := nE
  have M : L2.Mk K CM fI := ⟨mk, jI, iI, kC⟩
  have hm : Meth K CM "longest" fL := ⟨jL, iL, kL⟩
  have F_init := fun_mk (st := s_minit) lI cI kI
  have b_init := F_init.binds (ps := ["self", "phrases"]) fun _ _ _ _ _ _ us hl => match us, hl with | [_, _], _ => rfl
  have F_long := fun_mk (st := s_mlong) lL cL kL
  have b_long := F_long.binds (ps := ["self", "words", "at"]) fun _ _ _ _ _ _ us hl => match us, hl with | [_, _, _], _ => rfl
  have GSB := Def.mk' (ok_sb (P := l.prog) (w := w) (base := base) F_state_behind T) b_state_behind k4 (PySem.W.mg_of X G a4)
  have FI := ok_minit (P := l.prog) (w := w) (mg := mg) (base := base) (CM := CM) F_init GSB c n1 n2
  have FL := ok_mlong (P := l.prog) (w := w) (mg := mg) (base := base) (CM := CM) F_long T c n1 n2
  have GIW := Def.mk' (ok_word (P := l.prog) (w := w) (base := base) F_is_word TW) b_is_word k1 (PySem.W.mg_of X G a1)
  have GBT := Def.mk' (ok_bent F_bent TW GIW) b_bent k2 (PySem.W.mg_of X G a2)
  have GFO := Def.mk' (ok_forms F_forms TW GBT) b_forms k3 (PySem.W.mg_of X G a3)
  have GST := Def.mk' (ok_str (P := l.prog) (w := w) (base := base) F_strength T.len TS) b_strength k5 (PySem.W.mg_of X G a5)
  have GTW := Def.mk' (ok_twh (P := l.prog) (w := w) (base := base) F_things_with_homes b_things_with_homes k6 (PySem.W.mg_of X G a6) 21) b_things_with_homes k6 (PySem.W.mg_of X G a6)
  have GRW := Def.mk' (ok_rws F_rows_with_homes GTW) b_rows_with_homes k7 (PySem.W.mg_of X G a7)
  have GTO := Def.mk' (ok_to F_tellings_of nz_sorted GTW GFO) b_tellings_of k8 (PySem.W.mg_of X G a8)
  have GTA := Def.mk' (ok_tat F_told_at TS GST) b_told_at k9 (PySem.W.mg_of X G a9)
  have GMB := Def.mk' (ok_mb F_marks_by T c hm FL b_long) b_marks_by k10 (PySem.W.mg_of X G a10)
  have GMK := Def.mk' (ok_mks2 F_marks T GTO GRW GTA GMB ny_Machine M FI b_init) b_marks k11 (PySem.W.mg_of X G a11)
  have Y : Ty7 K mg := ⟨nz_isinstance, nz_bool, nz_int, nz_list, nz_tuple, kb, ki, kl, kt⟩
  have GC := Def.mk' (ok_cell (P := l.prog) (w := w) (base := base) F__law_cell T.len) b__law_cell k12 (PySem.W.mg_of X G a12)
  have GS := Def.mk' (ok_signs (P := l.prog) (w := w) (base := base) F__law_signs T) b__law_signs k13 (PySem.W.mg_of X G a13)
  have GM := Def.mk' (ok_menuF F__law_menu T GC GS) b__law_menu k14 (PySem.W.mg_of X G a14)
  have GR := Def.mk' (ok_rowF (P := l.prog) (w := w) (base := base) F__law_row T) b__law_row k15 (PySem.W.mg_of X G a15)
  have GB := Def.mk' (ok_bendsA (P := l.prog) (w := w) (base := base) F__law_bends T) b__law_bends k16 (PySem.W.mg_of X G a16)
  have GT := Def.mk' (ok_toldF F__law_told T GR GB) b__law_told k17 (PySem.W.mg_of X G a17)
  have GN := Def.mk' (ok_numA F__law_number GC) b__law_number k18 (PySem.W.mg_of X G a18)
  have GD := Def.mk' (ok_docF F__law_doc T GC GR GN GT) b__law_doc k19 (PySem.W.mg_of X G a19)
  have GSH := Def.mk' (ok_shapes (P := l.prog) (w := w) (base := base) F__law_shapes T) b__law_shapes k20 (PySem.W.mg_of X G a20)
  have GTL := Def.mk' (ok_tls F__law_tellings b__law_tellings k21 (PySem.W.mg_of X G a21) GSH 9) b__law_tellings k21 (PySem.W.mg_of X G a21)
  have GF := Def.mk' (ok_force (P := l.prog) (w := w) (base := base) F__law_force T) b__law_force k22 (PySem.W.mg_of X G a22)
  have GW := Def.mk' (ok_win F__law_winners T nz_sorted GF) b__law_winners k23 (PySem.W.mg_of X G a23)
  have GLG := Def.mk' (ok_lg (P := l.prog) (w := w) (base := base) F__law_longest T) b__law_longest k24 (PySem.W.mg_of X G a24)
  have GRO := Def.mk' (ok_rm F__law_rows T GW b__law_rows k25 (PySem.W.mg_of X G a25) 9) b__law_rows k25 (PySem.W.mg_of X G a25)
  have GWH := Def.mk' (ok_whole (P := l.prog) (w := w) (base := base) F__law_whole Y) b__law_whole k26 (PySem.W.mg_of X G a26)
  have GKI := Def.mk' (ok_kinds F__law_kinds T Y GWH) b__law_kinds k27 (PySem.W.mg_of X G a27)
  have GRM := Def.mk' (ok_rowM F__law_row_marked T GLG) b__law_row_marked k28 (PySem.W.mg_of X G a28)
  have GWK := Def.mk' (ok_walked F__law_walked T GKI GTL GRO GRM) b__law_walked k29 (PySem.W.mg_of X G a29)
  exact ok_law (kt := 23) F_law T (by decide) rfl GC GM GD GR GWK GMK
theorem walk {l : PySem.W.OpenLaw} {q : Program} {loose : List Str} {XP : (Str → Option Value) → Heap → Prop} {YP : World → Heap → Prop} {d : DefRec} {K : Params → PySem.W.Frag} (hn : l.most = some 63) (hdf : d.params.defaults = [])
    (hY : ∀ (w : World) (h : Heap), YP w h → (K w.params).In h)
    (F : ∀ (w : World) (mg : Str → Option Value) (fa : Addr) (h : Heap), (K w.params).In h → h.Ns mainGlobals mg → mg d.name = some (.ref fa) →
      ∃ fd : FuncData, (∀ (s : Shared) (u : Value), BindsTo s fd ⟨[u], []⟩ [("_law_script", u)]) ∧ ∀ base : Heap, (K w.params).In base → base.Ns mainGlobals mg → FnOk l.prog w (K w.params) mg base CX0 24 fa fd ["_law_script"] (spLaw (K w.params))) :
    PySem.W.WalkO q loose XP YP l.row.toRowW d [] (fun f vs => PySem.call f vs) :=
  L2.walk_of (n := 63) (k := 24) (x := "_law_script") (CX := fun _ => CX0) (sp := fun w => (spLaw (K w.params))) hn (by decide) hdf ⟨rfl, by decide, by decide, rfl⟩ hY F (fun _ _ a ns hl _ hS => ⟨a, ns, rfl, hS, hl, fun _ => rfl⟩) fun _ _ _ _ _ z => z
end D
def PySem.W.Fast.tw1276372272242291087 : Nat := 0
def PySem.W.Fast.tw8648931652784579521 : Nat := 0
def PySem.W.Fast.tw957842848490717770 : Nat := 0
def PySem.W.Fast.tw11327573148214363050 : Nat := 0
def PySem.W.Fast.tw7290150572232120349 : Nat := 0
def PySem.W.Fast.tw5200048474122449813 : Nat := 0
def PySem.W.Fast.tw6294884591914118735 : Nat := 0
def PySem.W.Fast.tw14230378205487819633 : Nat := 0
def PySem.W.Fast.tw15821477072190392067 : Nat := 0
open PySem PySem.W PyProof.Rows
set_option maxRecDepth 100000 in
set_option maxHeartbeats 0 in
theorem PySem.Challenge.cw_gloss_k33_whole_marks_holds : PySem.Challenge.rw_gloss_k33_whole_marks.Holds := by
  w_on; o_law; k_head; (case hw => w_witness2)
  k_fill
  refine D.walk (l := PySem.Challenge.rw_gloss_k33_whole_marks) rfl rfl (fun w h Y => PySem.W.kIn_of Y) ?F
  case F =>
    intro w mg fa h KX G hmg
    refine' D.all_mk KX G hmg ?a1 ?l1 ?c1 ?k1 ?a2 ?l2 ?c2 ?k2 ?a3 ?l3 ?c3 ?k3 ?a4 ?l4 ?c4 ?k4 ?a5 ?l5 ?c5 ?k5 ?a6 ?l6 ?c6 ?k6 ?a7 ?l7 ?c7 ?k7 ?a8 ?l8 ?c8 ?k8 ?a9 ?l9 ?c9 ?k9 ?a10 ?l10 ?c10 ?k10 ?a11 ?l11 ?c11 ?k11 ?a12 ?l12 ?c12 ?k12 ?a13 ?l13 ?c13 ?k13 ?a14 ?l14 ?c14 ?k14 ?a15 ?l15 ?c15 ?k15 ?a16 ?l16 ?c16 ?k16 ?a17 ?l17 ?c17 ?k17 ?a18 ?l18 ?c18 ?k18 ?a19 ?l19 ?c19 ?k19 ?a20 ?l20 ?c20 ?k20 ?a21 ?l21 ?c21 ?k21 ?a22 ?l22 ?c22 ?k22 ?a23 ?l23 ?c23 ?k23 ?a24 ?l24 ?c24 ?k24 ?a25 ?l25 ?c25 ?k25 ?a26 ?l26 ?c26 ?k26 ?a27 ?l27 ?c27 ?k27 ?a28 ?l28 ?c28 ?k28 ?a29 ?l29 ?c29 ?k29 ?a30 ?l30 ?c30 ?k30 ?g1 ?g2 ?g3 ?g4 ?g5 ?g6 ?z1 ?z2 ?z3 ?z4 ?z5 ?z6 ?z7 ?z8 ?z9 ?z10 ?z11 ?z12 ?y1 ?kb ?ki ?kS ?jI ?lI ?cI ?kI ?iI ?jL ?lL ?cL ?kL ?iL ?mk ?kC ?pg ?hd ?po ?sa ?nS ?nE ?kl ?kt
    (case a1 => k_is); (case l1 => k_is); (case c1 => k_is); (case k1 => k_is)
    (case a2 => k_is); (case l2 => k_is); (case c2 => k_is); (case k2 => k_is)
    (case a3 => k_is); (case l3 => k_is); (case c3 => k_is); (case k3 => k_is)
    (case a4 => k_is); (case l4 => k_is); (case c4 => k_is); (case k4 => k_is)
    (case a5 => k_is); (case l5 => k_is); (case c5 => k_is); (case k5 => k_is)
    (case a6 => k_is); (case l6 => k_is); (case c6 => k_is); (case k6 => k_is)
    (case a7 => k_is); (case l7 => k_is); (case c7 => k_is); (case k7 => k_is)
    (case a8 => k_is); (case l8 => k_is); (case c8 => k_is); (case k8 => k_is)
    (case a9 => k_is); (case l9 => k_is); (case c9 => k_is); (case k9 => k_is)
    (case a10 => k_is); (case l10 => k_is); (case c10 => k_is); (case k10 => k_is)
    (case a11 => k_is); (case l11 => k_is); (case c11 => k_is); (case k11 => k_is)
    (case a12 => k_is); (case l12 => k_is); (case c12 => k_is); (case k12 => k_is)
    (case a13 => k_is); (case l13 => k_is); (case c13 => k_is); (case k13 => k_is)
    (case a14 => k_is); (case l14 => k_is); (case c14 => k_is); (case k14 => k_is)
    (case a15 => k_is); (case l15 => k_is); (case c15 => k_is); (case k15 => k_is)
    (case a16 => k_is); (case l16 => k_is); (case c16 => k_is); (case k16 => k_is)
    (case a17 => k_is); (case l17 => k_is); (case c17 => k_is); (case k17 => k_is)
    (case a18 => k_is); (case l18 => k_is); (case c18 => k_is); (case k18 => k_is)
    (case a19 => k_is); (case l19 => k_is); (case c19 => k_is); (case k19 => k_is)
    (case a20 => k_is); (case l20 => k_is); (case c20 => k_is); (case k20 => k_is)
    (case a21 => k_is); (case l21 => k_is); (case c21 => k_is); (case k21 => k_is)
    (case a22 => k_is); (case l22 => k_is); (case c22 => k_is); (case k22 => k_is)
    (case a23 => k_is); (case l23 => k_is); (case c23 => k_is); (case k23 => k_is)
    (case a24 => k_is); (case l24 => k_is); (case c24 => k_is); (case k24 => k_is)
    (case a25 => k_is); (case l25 => k_is); (case c25 => k_is); (case k25 => k_is)
    (case a26 => k_is); (case l26 => k_is); (case c26 => k_is); (case k26 => k_is)
    (case a27 => k_is); (case l27 => k_is); (case c27 => k_is); (case k27 => k_is)
    (case a28 => k_is); (case l28 => k_is); (case c28 => k_is); (case k28 => k_is)
    (case a29 => k_is); (case l29 => k_is); (case c29 => k_is); (case k29 => k_is)
    (case a30 => k_is); (case l30 => k_is); (case c30 => k_is); (case k30 => k_is)
    (case g1 => k_is); (case g2 => k_is); (case g3 => k_is); (case g4 => k_is); (case g5 => k_is); (case g6 => k_is)
    (case z1 => k_is); (case z2 => k_is); (case z3 => k_is); (case z4 => k_is); (case z5 => k_is); (case z6 => k_is); (case z7 => k_is); (case z8 => k_is); (case z9 => k_is); (case z10 => k_is); (case z11 => k_is); (case z12 => k_is)
    (case y1 => k_is)
    (case kb => kernel_rfl)
    (case ki => kernel_rfl)
    (case kS => kernel_rfl)
    (case jI => k_is)
    (case lI => k_is)
    (case cI => k_is)
    (case kI => k_is)
    (case iI => kernel_rfl)
    (case jL => k_is)
    (case lL => k_is)
    (case cL => k_is)
    (case kL => k_is)
    (case iL => kernel_rfl)
    (case mk => kernel_rfl)
    (case kC => k_is)
    (case pg => kernel_rfl)
    (case hd => kernel_rfl)
    (case po => kernel_rfl)
    (case sa => k_is)
    (case nS => k_is)
    (case nE => k_is)
    (case kl => kernel_rfl)
    (case kt => kernel_rfl)
