import PyProof.Rows.All
import Wide.All
import OpenK.AllK
import Wide.FinOn
import Lean
import PyProof.EqAt
import PyProof.EqKinds
import PyProof.TupleCall
import PyProof.ConsumeS
import PySem.Challenge.RW_cordbook_k09_slid
set_option Elab.async false
set_option linter.all false
set_option maxRecDepth 100000
noncomputable section
namespace L2
open PySem PySem.Spec PyProof.Rows
abbrev Key := Sum Int Str
def keyIs : Key → Value → Bool
 | .inl k, v => Value.isInt k v
 | .inr x, v => Value.isStrOf x v
def keyH (w : World) : Key → Int
 | .inl k => hashInt k
 | .inr x => hashStr w x
theorem aX : ∀ {k : Key} {v : Value}, keyIs k v = true → (∃ i t, k = Sum.inl i ∧ v = Value.int i t) ∨ (∃ x t, k = Sum.inr x ∧ v = Value.str x t)
 | .inl i, v, h => by
  obtain ⟨t, e⟩ := Value.isInt_shape (k := i) (v := v) h
  exact .inl ⟨i, t, rfl, e⟩
 | .inr x, v, h => by
  obtain ⟨t, e⟩ := Value.isStrOf_shape (x := x) (v := v) h
  exact .inr ⟨x, t, rfl, e⟩
theorem mL (i : Int) (t : Tok) : keyIs (.inl i) (.int i t) = true := by simp [keyIs, Value.isInt]
theorem mO (x : Str) (t : Tok) : keyIs (.inr x) (.str x t) = true := by simp [keyIs, Value.isStrOf]
theorem key_ll (a b : Int) : decide ((Sum.inl a : Key) = Sum.inl b) = (a == b) := by
 by_cases e : a = b
 ·subst e; simp
 ·have h : ¬ (Sum.inl a : Key) = Sum.inl b := fun q => e (Sum.inl.inj q)
  rw [decide_eq_false h]
  exact (beq_eq_false_iff_ne.mpr e).symm
theorem key_rr (a b : Str) : decide ((Sum.inr a : Key) = Sum.inr b) = decide (a = b) := by
 by_cases e : a = b
 ·subst e; simp
 ·have h : ¬ (Sum.inr a : Key) = Sum.inr b := fun q => e (Sum.inr.inj q)
  rw [decide_eq_false h, decide_eq_false e]
theorem key_lr (a : Int) (b : Str) : decide ((Sum.inl a : Key) = Sum.inr b) = false := decide_eq_false (fun q => nomatch q)
theorem key_rl (a : Str) (b : Int) : decide ((Sum.inr a : Key) = Sum.inl b) = false := decide_eq_false (fun q => nomatch q)
def mixKind (prog : Program) (w : World) : PySem.KeyKind prog w Key where
 is := keyIs
 hash := keyH w
 inj := fun v a b ha hb => by
  rcases aX ha with ⟨i, t, rfl, rfl⟩ | ⟨x, t, rfl, rfl⟩
  ·rcases aX hb with ⟨j, u, rfl, e⟩ | ⟨y, u, rfl, e⟩
   ·injection e with e1 _; rw [e1]
   ·exact nomatch e
  ·rcases aX hb with ⟨j, u, rfl, e⟩ | ⟨y, u, rfl, e⟩
   ·exact nomatch e
   ·injection e with e1 _; rw [e1]
 byValue := fun k v h => by
  rcases aX h with ⟨i, t, rfl, rfl⟩ | ⟨x, t, rfl, rfl⟩ <;> rfl
 pyHash := fun hv h => by
  rcases aX hv with ⟨i, t, rfl, rfl⟩ | ⟨x, t, rfl, rfl⟩
  ·exact wpAny_pyHash_int h
  ·exact wpAny_pyHash_str h
 eqBool := fun hu hv h => by
  rcases aX hu with ⟨i, t, rfl, rfl⟩ | ⟨x, t, rfl, rfl⟩
  ·rcases aX hv with ⟨j, u, rfl, rfl⟩ | ⟨y, u, rfl, rfl⟩
   ·rw [key_ll] at h; exact wpAny_eqBool_int h
   ·rw [key_lr] at h; exact SeqAt.EqAt.int_str i t y u _ _ _ _ h
  ·rcases aX hv with ⟨j, u, rfl, rfl⟩ | ⟨y, u, rfl, rfl⟩
   ·rw [key_rl] at h; exact SeqAt.EqAt.str_int x t j u _ _ _ _ h
   ·rw [key_rr] at h; exact wpAny_eqBool_str h
 «strs» := fun k x t v h => by
  rcases aX h with ⟨i, u, rfl, e⟩ | ⟨y, u, rfl, e⟩
  ·exact nomatch e
  ·injection e with e1 _
   subst e1
   cases v <;> rfl
theorem i8 (prog : Program) (w : World) (i : Int) (t : Tok) : (mixKind prog w).is (.inl i) (.int i t) = true := mL i t
theorem i9 (prog : Program) (w : World) (x : Str) (t : Tok) : (mixKind prog w).is (.inr x) (.str x t) = true := mO x t
end L2
namespace L2
open PySem PySem.Spec PyProof.Rows
inductive V where
 | non | bl (b : Bool) | int (i : Int) | str (x : Str) | byt (b : Array UInt8) | flt (b : UInt64) | ref (a : Addr) | ty (n : String)
 deriving DecidableEq
def RelV : V → Value → Prop
 | .non, u => u = Value.none
 | .bl b, u => u = Value.bool b
 | .int i, u => ∃ t, u = Value.int i t
 | .str x, u => ∃ t, u = Value.str x t
 | .byt b, u => ∃ t, u = Value.bytes b t
 | .flt b, u => ∃ t, u = Value.float b t
 | .ref a, u => u = Value.ref a
 | .ty n, u => u = Value.type n
abbrev Vals : List V → List Value → Prop := Paired RelV
theorem Vals.length {xs : List V} {us : List Value} (r : Vals xs us) : xs.length = us.length := Paired.length r
theorem Vals.get : ∀ {xs : List V} {us : List Value} {i : Nat} {x : V}, Vals xs us → xs[i]? = some x → ∃ u, us[i]? = some u ∧ RelV x u
 | _, _, _, _, .nil, e => by simp at e
 | _, _, 0, _, .cons r _, e => by simp at e; subst e; exact ⟨_, rfl, r⟩
 | _, _, i + 1, x, .cons _ t, e => by
  obtain ⟨u, h1, h2⟩ := Vals.get (i := i) (x := x) t (by simpa using e)
  exact ⟨u, by simpa using h1, h2⟩
theorem Vals.set {x : V} {u : Value} (r : RelV x u) : ∀ {xs : List V} {us : List Value} (i : Nat), Vals xs us → Vals (xs.set i x) (us.set i u)
 | _, _, _, .nil => .nil
 | _, _, 0, .cons _ t => .cons r t
 | _, _, i + 1, .cons q t => .cons q (Vals.set r i t)
theorem Vals.append : ∀ {xs ys : List V} {us ws : List Value}, Vals xs us → Vals ys ws → Vals (xs ++ ys) (us ++ ws)
 | _, _, _, _, .nil, s => s
 | _, _, _, _, .cons r t, s => .cons r (Vals.append t s)
theorem Vals.take : ∀ {xs : List V} {us : List Value} (n : Nat), Vals xs us → Vals (xs.take n) (us.take n)
 | _, _, 0, _ => .nil
 | _, _, _ + 1, .nil => .nil
 | _, _, n + 1, .cons r t => .cons r (Vals.take n t)
theorem Vals.drop : ∀ {xs : List V} {us : List Value} (n : Nat), Vals xs us → Vals (xs.drop n) (us.drop n)
 | _, _, 0, r => r
 | _, _, _ + 1, .nil => .nil
 | _, _, n + 1, .cons _ t => Vals.drop n t
def RelO : Option V → Option Value → Prop
 | some v, some u => RelV v u
 | none, none => True
 | _, _ => False
def KV {κ : Type} : List (κ × V) → List (κ × Value) → Prop := Paired fun (p : κ × V) (q : κ × Value) => p.1 = q.1 ∧ RelV p.2 q.2
def kV : Key → V
 | .inl i => .int i
 | .inr x => .str x
inductive HO where
 | lst (xs : List V)
 | tup (xs : List V)
 | dK (kvs : List (Key × V)) | dT (kvs : List (List Key × V))
 | set (S : Int → Bool) (n : Nat)
 | ins (C dx : Addr) (fs : List (Str × V))
 | own (x : Addr)
 | xd (fs : List (Str × V))
 | met (f x : Addr)
 | rng (lo hi : Int)
 | frz (o : Obj) (u : HO)
 | tbl (ps : Array Value)
 | ext (φ : Heap → Prop)
abbrev Hp := Addr → Option HO
def upd (H : Hp) (a : Addr) (o : HO) : Hp := fun b => if b = a then some o else H b
theorem aO {H : Hp} {a : Addr} {o : HO} : upd H a o a = some o := by unfold upd; rw [if_pos rfl]
theorem aL {H : Hp} {a b : Addr} {o : HO} (h : b ≠ a) : upd H a o b = H b := by unfold upd; rw [if_neg h]
theorem ne_of {H : Hp} {a b : Addr} {o u : HO} (h : H a = some o) (h' : H b = some u) (d : o ≠ u) : a ≠ b := by
 intro e; subst e; rw [h] at h'; exact d (Option.some.inj h')
theorem aT {H : Hp} {a b : Addr} {o : HO} (h : H a = some o) (h' : H b = none) : a ≠ b := by
 intro e; subst e; rw [h] at h'; cases h'
section
variable (P : Program) (w : World)
def ObjOk (H : Hp) (h : Heap) (a : Addr) : HO → Prop
 | .lst xs => xs.length ≤ sizeLine ∧ ∃ (its : List Value) (n : Nat), Vals xs its ∧ h.get? a = some { cls := .type "list", data := .seq its.toArray n }
 | .tup xs => xs.length ≤ sizeLine ∧ ∃ its : List Value, Vals xs its ∧ IsTup h a its.toArray
 | .dK kvs => kvs.length ≤ sizeLine ∧ (a == sysModules) = false ∧ ∃ vs, KV kvs vs ∧ h.DictOf (mixKind P w) a vs
 | .dT kvs => kvs.length ≤ sizeLine ∧ (a == sysModules) = false ∧ ∃ xs : List (List Key × Addr × Value),
   Paired (fun (p : List Key × V) (q : List Key × Addr × Value) => p.1 = q.1 ∧ H q.2.1 = some (.tup (p.1.map kV)) ∧ RelV p.2 q.2.2) kvs xs ∧
   ∃ o es ep, h.get? a = some o ∧ o.ExactDict ∧ o.data = .dict es ep ∧ es.toList = xs.map (entryOfKey (tupleKind (mixKind P w))) ∧ (xs.map (·.1)).Nodup
 | .set S n => h.SetOf (intKind P w) a S n
 | .ins C dx fs => H dx = some (.own a) ∧ fs.length ≤ 1000 ∧ dx ≠ a ∧ h.get? a = some (PySem.W.instObj C dx) ∧
   ∃ mA, h.Ns1 dx mA ∧ (∀ f, RelO (fs.lookup f) (mA f)) ∧ PySem.Within mA (fs.map (·.1))
 | .own _ => ∃ o, h.get? a = some o
 | .xd fs => ∃ mA, h.Ns1 a mA ∧ ∀ f, RelO (fs.lookup f) (mA f)
 | .rng lo hi => ∃ t u v, h.get? a = some { cls := .type "range", data := .fields #[.int lo t, .int hi u, .int 1 v] }
 | .frz o u => h.get? a = some o ∧ ObjOk H h a u
 | .tbl ps => h.get? a = some { cls := .none, data := .fields ps }
 | .met f x => h.get? a = some (PySem.W.methodObj (.ref f) (.ref x))
 | .ext φ => φ h ∧ (∃ o, h.get? a = some o) ∧ ∀ h1 h2 : Heap, φ h1 → (∀ o, h1.get? a = some o → h2.get? a = some o) → φ h2
def HOk (H : Hp) (h : Heap) : Prop := ∀ a o, H a = some o → ObjOk P w H h a o
end
section
variable {P : Program} {w : World} {H H' : Hp} {h h' : Heap} {a : Addr} {o : HO}
theorem ObjOk.lt (x : ObjOk P w H h a o) : a < h.objs.size := by
 cases o with
 | lst xs => obtain ⟨_, _, _, _, e⟩ := x; exact Heap.lt_size e
 | tup xs => obtain ⟨_, _, _, p⟩ := x; exact p.lt
 | dK kvs => obtain ⟨_, _, _, _, o, _, _, e, _⟩ := x; exact Heap.lt_size e
 | dT kvs => obtain ⟨_, _, _, _, o, _, _, e, _⟩ := x; exact Heap.lt_size e
 | set S n => obtain ⟨o, _, _, _, e, _⟩ := x; exact Heap.lt_size e
 | ins C dx fs => obtain ⟨_, _, _, e, _⟩ := x; exact Heap.lt_size e
 | own y => obtain ⟨_, e⟩ := x; exact Heap.lt_size e
 | xd fs => obtain ⟨_, ⟨_, _, _, e, _⟩, _⟩ := x; exact Heap.lt_size e
 | rng lo hi => obtain ⟨_, _, _, e⟩ := x; exact Heap.lt_size e
 | frz ob u => obtain ⟨e, _⟩ := x; exact Heap.lt_size e
 | tbl ps => exact Heap.lt_size (show h.get? a = some _ from x)
 | met f y => exact Heap.lt_size (show h.get? a = some _ from x)
 | ext φ => obtain ⟨_, ⟨_, e⟩, _⟩ := x; exact Heap.lt_size e
theorem Paired.mapP {α β : Type} {F G : α → β → Prop} : ∀ {l₁ : List α} {l₂ : List β}, Paired F l₁ l₂ → (∀ a b, F a b → G a b) → Paired G l₁ l₂
 | _, _, .nil, _ => .nil
 | _, _, .cons r t, f => .cons (f _ _ r) (Paired.mapP t f)
theorem ObjOk.stay (x : ObjOk P w H h a o) (k : ∀ b u, (b = a ∨ H b = some (.own a)) → h.get? b = some u → h'.get? b = some u)
  (ho : ∀ b, H b = some (.own a) → H' b = some (.own a)) (ht : ∀ b xs, H b = some (.tup xs) → H' b = some (.tup xs)) : ObjOk P w H' h' a o := by
 induction o with
 | lst xs => obtain ⟨z, its, n, r, e⟩ := x; exact ⟨z, its, n, r, k _ _ (.inl rfl) e⟩
 | tup xs => obtain ⟨z, its, r, ob, e, c⟩ := x; exact ⟨z, its, r, ob, k _ _ (.inl rfl) e, c⟩
 | dK kvs => obtain ⟨z, y, vs, r, ob, es, ep, e, c⟩ := x; exact ⟨z, y, vs, r, ob, es, ep, k _ _ (.inl rfl) e, c⟩
 | dT kvs =>
  obtain ⟨z, y, xs, r, ob, es, ep, e, c⟩ := x
  exact ⟨z, y, xs, Paired.mapP r fun p q z => ⟨z.1, ht _ _ z.2.1, z.2.2⟩, ob, es, ep, k _ _ (.inl rfl) e, c⟩
 | set S n => obtain ⟨ob, es, ep, t, e, c⟩ := x; exact ⟨ob, es, ep, t, k _ _ (.inl rfl) e, c⟩
 | ins C dx fs =>
  obtain ⟨d, z, ne, e, mA, ⟨od, es, ep, e2, c⟩, r⟩ := x
  exact ⟨ho _ d, z, ne, k _ _ (.inl rfl) e, mA, ⟨od, es, ep, k _ _ (.inr d) e2, c⟩, r⟩
 | own y => obtain ⟨ob, e⟩ := x; exact ⟨ob, k _ _ (.inl rfl) e⟩
 | xd fs => obtain ⟨mA, ⟨od, es, ep, e, c⟩, r⟩ := x; exact ⟨mA, ⟨od, es, ep, k _ _ (.inl rfl) e, c⟩, r⟩
 | rng lo hi => obtain ⟨t, u, v, e⟩ := x; exact ⟨t, u, v, k _ _ (.inl rfl) e⟩
 | frz ob u ih => obtain ⟨e, q⟩ := x; exact ⟨k _ _ (.inl rfl) e, ih q⟩
 | tbl ps =>
  have e : h.get? a = some { cls := .none, data := .fields ps } := x
  show h'.get? a = some { cls := .none, data := .fields ps }
  exact k a _ (.inl rfl) e
 | met f y =>
  have e : h.get? a = some (PySem.W.methodObj (.ref f) (.ref y)) := x
  show h'.get? a = some (PySem.W.methodObj (.ref f) (.ref y))
  exact k a _ (.inl rfl) e
 | ext φ => obtain ⟨p, ⟨o, e⟩, st⟩ := x; exact ⟨st _ _ p fun o q => k _ _ (.inl rfl) q, ⟨o, k _ _ (.inl rfl) e⟩, st⟩
theorem HOk.lt (x : HOk P w H h) (e : H a = some o) : a < h.objs.size := (x a o e).lt
theorem HOk.fresh (x : HOk P w H h) (e : h.objs.size ≤ a) : H a = none := by
 cases q : H a with
 | none => rfl
 | some u => exact absurd (Nat.lt_of_lt_of_le (x.lt q) e) (Nat.lt_irrefl _)
theorem HOk.kept (x : HOk P w H h) (k : ∀ b u, h.get? b = some u → h'.get? b = some u) : HOk P w H h' := fun a o e =>
 (x a o e).stay (fun b u _ q => k b u q) (fun _ q => q) fun _ _ q => q
theorem HOk.laid (x : HOk P w H h) (k : ∀ b u, h.get? b = some u → h'.get? b = some u) (hp : h.objs.size ≤ a) (new : ObjOk P w (upd H a o) h' a o) : HOk P w (upd H a o) h' := fun b u e => by
 have hn := x.fresh hp
 by_cases hb : b = a
 ·subst hb; rw [aO] at e; cases e; exact new
 ·rw [aL hb] at e
  exact (x b u e).stay (fun c v _ q => k c v q) (fun c q => by rw [aL (aT q hn)]; exact q) fun c xs q => by rw [aL (aT q hn)]; exact q
end
def Rd (H : Hp) (a : Addr) (u : HO) : Prop := H a = some u ∨ ∃ o, H a = some (.frz o u)
theorem Rd.ok {P : Program} {w : World} {H : Hp} {h : Heap} {a : Addr} {u : HO} (r : Rd H a u) (x : HOk P w H h) : ObjOk P w H h a u := by
 rcases r with r | ⟨o, r⟩
 ·exact x a u r
 ·obtain ⟨_, q⟩ := x a _ r
  exact q
def Mut : Option HO → Prop
 | some (.lst _) => True
 | some (.dK _) => True
 | some (.dT _) => True
 | some (.set _ _) => True
 | some (.ins _ _ _) => True
 | some (.ext _) => True
 | _ => False
section
variable {P : Program} {w : World} {H : Hp} {h h' : Heap} {x e : Addr} {o' : HO}
theorem HOk.write (ok : HOk P w H h) (mu : Mut (H x)) (he : e = x ∨ H e = some (.own x)) (k : ∀ b u, b ≠ e → h.get? b = some u → h'.get? b = some u) (heo : ∃ u, h'.get? e = some u)
  (new : ObjOk P w (upd H x o') h' x o') : HOk P w (upd H x o') h' := fun b u q => by
 have nown : ∀ c y, H c = some (.own y) → c ≠ x := fun c y r z => by subst z; rw [r] at mu; exact mu
 have ntup : ∀ c xs, H c = some (.tup xs) → c ≠ x := fun c xs r z => by subst z; rw [r] at mu; exact mu
 by_cases hb : b = x
 ·subst hb; rw [aO] at q; cases q; exact new
 ·rw [aL hb] at q
  by_cases hbe : b = e
  ·have q' : H b = some (.own x) := by
    rcases he with z | z
    ·exact absurd (hbe.trans z) hb
    ·rw [hbe]; exact z
   rw [q] at q'; cases q'
   obtain ⟨v, hv⟩ := heo
   exact ⟨v, by rw [hbe]; exact hv⟩
  ·refine (ok b u q).stay (fun c v hc r => k c v ?_ r) (fun c r => by rw [aL (nown c b r)]; exact r) fun c xs r => by rw [aL (ntup c xs r)]; exact r
   rcases hc with rfl | hc
   ·exact hbe
   ·rintro rfl
    rcases he with z | z
    ·exact nown c b hc z
    ·rw [hc] at z; cases z; exact hb rfl
end
structure Un (fs ex : List Addr) (H H' : Hp) (h h' : Heap) : Prop where
 keep : ∀ b o, h.get? b = some o → H b = none → b ∉ fs → b ∉ ex → h'.get? b = some o
 slot : ∀ b o, h.get? b = some o → H b = none → b ∈ fs → b ∉ ex → ∃ sl, h'.get? b = some { o with slots := sl }
 free : ∀ b o, h.get? b = some o → H b = none → b ∉ ex → H' b = none
 there : ∀ b o, h.get? b = some o → b ∉ ex → ∃ o', h'.get? b = some o'
 tups : ∀ b xs, H b = some (.tup xs) → H' b = some (.tup xs)
 frzs : ∀ b o u, H b = some (.frz o u) → H' b = some (.frz o u)
 tbls : ∀ b ps, H b = some (.tbl ps) → ∃ more, H' b = some (.tbl (ps ++ more))
section
variable {fs fs' ex ex' : List Addr} {H H1 H2 : Hp} {h h1 h2 h' : Heap} {a x e : Addr} {o : HO}
theorem Un.any (u : Un fs ex H H1 h h1) {b : Addr} {ob : Obj} (q : h.get? b = some ob) (n : H b = none) (hx : b ∉ ex) : ∃ sl, h1.get? b = some { ob with slots := sl } := by
 by_cases hb : b ∈ fs
 ·exact u.slot b ob q n hb hx
 ·exact ⟨ob.slots, u.keep b ob q n hb hx⟩
theorem Un.trans (a : Un fs ex H H1 h h1) (b : Un fs ex H1 H2 h1 h2) : Un fs ex H H2 h h2 where
 keep := fun c ob q n hc hx => b.keep c ob (a.keep c ob q n hc hx) (a.free c ob q n hx) hc hx
 slot := fun c ob q n hc hx => by
  obtain ⟨sl, e1⟩ := a.slot c ob q n hc hx
  obtain ⟨sl', e2⟩ := b.slot c _ e1 (a.free c ob q n hx) hc hx
  exact ⟨sl', e2⟩
 free := fun c ob q n hx => by
  obtain ⟨o', e1⟩ := a.there c ob q hx
  exact b.free c o' e1 (a.free c ob q n hx) hx
 there := fun c ob q hx => by
  obtain ⟨o', e1⟩ := a.there c ob q hx
  exact b.there c o' e1 hx
 tups := fun c xs q => b.tups c xs (a.tups c xs q)
 frzs := fun c ob xs q => b.frzs c ob xs (a.frzs c ob xs q)
 tbls := fun c ps q => by
  obtain ⟨m1, e1⟩ := a.tbls c ps q
  obtain ⟨m2, e2⟩ := b.tbls c _ e1
  exact ⟨m1 ++ m2, by rw [e2, Array.append_assoc]⟩
theorem Un.kept (k : ∀ b u, h.get? b = some u → h'.get? b = some u) : Un fs ex H H h h' :=
 ⟨fun b ob q _ _ _ => k b ob q, fun b ob q _ _ _ => ⟨ob.slots, k b ob q⟩, fun _ _ _ n _ => n, fun b ob q _ => ⟨ob, k b ob q⟩, fun _ _ q => q, fun _ _ _ q => q, fun _ ps q => ⟨#[], by rw [q]; simp⟩⟩
theorem Un.refl : Un fs ex H H h h := Un.kept fun _ _ q => q
theorem Un.laid (k : ∀ b u, h.get? b = some u → h'.get? b = some u) (hp : h.objs.size ≤ a) (hn : H a = none) : Un fs ex H (upd H a o) h h' where
 keep := fun b u q _ _ _ => k b u q
 slot := fun b u q _ _ _ => ⟨u.slots, k b u q⟩
 free := fun b u q n _ => by rw [aL (Nat.ne_of_lt (Nat.lt_of_lt_of_le (Heap.lt_size q) hp))]; exact n
 there := fun b u q _ => ⟨u, k b u q⟩
 tups := fun b xs q => by rw [aL (aT q hn)]; exact q
 frzs := fun b u xs q => by rw [aL (aT q hn)]; exact q
 tbls := fun b ps q => ⟨#[], by rw [aL (aT q hn), q]; simp⟩
theorem Un.write (mu : Mut (H x)) (he : e = x ∨ H e = some (.own x)) (k : ∀ b u, b ≠ e → h.get? b = some u → h'.get? b = some u) (heo : ∃ u, h'.get? e = some u) : Un fs ex H (upd H x o) h h' := by
 have hx : ∀ b, H b = none → b ≠ x := fun b n z => by subst z; rw [n] at mu; exact mu
 have hb : ∀ b, H b = none → b ≠ e := fun b n z => by
  subst z
  rcases he with r | r
  ·exact hx b n r
  ·rw [n] at r; cases r
 have hm : ∀ b u, H b = some u → ¬ Mut (some u) → b ≠ x := fun b u q nm z => by subst z; rw [q] at mu; exact nm mu
 refine ⟨fun b u q n _ _ => k b u (hb b n) q, fun b u q n _ _ => ⟨u.slots, k b u (hb b n) q⟩, fun b u q n _ => by rw [aL (hx b n)]; exact n, fun b u q _ => ?_,
  fun b xs q => by rw [aL (hm b _ q fun z => z)]; exact q, fun b u xs q => by rw [aL (hm b _ q fun z => z)]; exact q, fun b ps q => ⟨#[], by rw [aL (hm b _ q fun z => z), q]; simp⟩⟩
 by_cases hbe : b = e
 ·subst hbe; exact heo
 ·exact ⟨u, k b u hbe q⟩
end
def trk (h : Heap) (H : Hp) : List Addr := (List.range h.objs.size).filter fun a => (H a).isSome
def hidT (h : Heap) (H : Hp) : Heap := PySem.W.hideAll h (trk h H)
theorem mP (h : Heap) (H : Hp) : (hidT h H).objs.size = h.objs.size := PySem.W.hideAll_size _ _
theorem oB {h : Heap} {H : Hp} {b : Addr} {o : Obj} (e : h.get? b = some o) (n : H b = none) : (hidT h H).get? b = some o :=
 PySem.W.hideAll_get _ e fun hm => by
  have q : (H b).isSome = true := (List.mem_filter.mp hm).2
  rw [n] at q; simp at q
theorem of_hidT {h : Heap} {H : Hp} {b : Addr} {o : Obj} (e : (hidT h H).get? b = some o) : h.get? b = some o ∧ H b = none := by
 have e' : h.get? b = some o := PySem.W.of_hideAll (trk h H) e
 refine ⟨e', ?_⟩
 cases q : H b with
 | none => rfl
 | some x =>
  have hm : b ∈ trk h H := List.mem_filter.mpr ⟨List.mem_range.mpr (Heap.lt_size e'), by simp [q]⟩
  have z : (hidT h H).get? b = none := PySem.W.hideAll_none (trk h H) hm
  rw [z] at e; cases e
end L2
namespace L2
open PySem PySem.Spec PyProof.Rows
structure Mod (K : PySem.W.Frag) (mg : Str → Option Value) (base : Heap) : Prop where
 kin : K.In base
 glob : base.Ns mainGlobals mg
 blt : ∃ mb, base.Ns builtinsNs mb ∧ ∀ x : Str, x ≠ "__name__" → mb x = bootBuiltins x
 nolimit : base.NoLimit
structure Cx where
 prog : Program
 w : World
 K : PySem.W.Frag
 mg : Str → Option Value
 base : Heap
 A : Around
 N : List Str
 s₀ : Shared
 H₀ : Hp
 env : Env
 outer : List Env
 stack : List Env
 ex : List Addr
 fn : Str → Bool
 calm : Bool
 pn : List (Addr × Obj)
 xe : Value → Shared → Prop
def frs (l : List Env) : List Addr := l.filterMap (·.frame)
abbrev Cx.fs (X : Cx) : List Addr := frs X.outer
def Vis (sc : Scope) (x : Str) : Prop := sc.names.lookup x = some .local ∨ sc.names.lookup x = some .cell ∨ sc.names.lookup x = some .free
def Loc (sc : Scope) (x : Str) : Prop := sc.names.lookup x = some .local ∨ sc.names.lookup x = some .cell
def Look (env : Env) (h : Heap) (m : Str → Option Value) (x : Str) (u : Value) : Prop :=
 (env.kindOf x = some .local ∧ m x = some u) ∨ ((env.kindOf x = some .cell ∨ env.kindOf x = some .free) ∧ ∃ c, env.cells.lookup x = some c ∧ h.IsCell c (some u))
structure Cx.Ok (X : Cx) : Prop where
 mod : Mod X.K X.mg X.base
 kind : X.env.scope.kind = .function
 glob : X.env.globals = mainGlobals
 blt : X.env.builtins = builtinsNs
 above : X.s₀.heap.objs.size ≤ X.env.locals
 inj : ∀ x y c, X.env.cells.lookup x = some c → X.env.cells.lookup y = some c → x = y
 has : ∀ x, (X.env.kindOf x = some .cell ∨ X.env.kindOf x = some .free) → ∃ c, X.env.cells.lookup x = some c
 cab : ∀ x c, X.fn x = true → X.env.cells.lookup x = some c → X.s₀.heap.objs.size ≤ c
 hd : X.calm = true → X.A.handled = none
 frames : X.A.frames = some X.stack
 stk : X.stack = X.outer ∨ (X.stack = X.env :: X.outer ∧ X.env.frame = some X.env.locals)
 exf : ∀ b ∈ X.ex, b ≠ X.env.locals ∧ ∀ x c, X.env.cells.lookup x = some c → c ≠ b
 bs : ∀ b o, X.base.get? b = some o → X.s₀.heap.get? b = some o ∧ X.H₀ b = none
 bsz : X.base.objs.size ≤ X.s₀.heap.objs.size
 noex : ∀ b o, X.base.get? b = some o → b ∉ X.ex
 exfs : ∀ b ∈ X.ex, b ∉ X.fs
 funs : X.s₀.heap.FunFrames X.base X.outer
 frf : ∀ b ∈ X.fs, X.H₀ b = none
structure Inv (X : Cx) (pins : List (Addr × Obj)) (σ : List (Option V)) (H : Hp) (s : Shared) : Prop where
 ok : X.Ok
 os : s.os = X.s₀.os
 bare : AllBare s.gens
 base : Un X.fs X.ex X.H₀ H X.s₀.heap s.heap
 loc : ∃ m, s.heap.Ns X.env.locals m ∧ ∀ (i : Nat) (x : Str) (v : V), X.N[i]? = some x → σ[i]? = some (some v) → Vis X.env.scope x → ∃ u, RelV v u ∧ Look X.env s.heap m x u
 cell : ∀ x c, X.env.cells.lookup x = some c → ∃ v, s.heap.IsCell c v
 free : H X.env.locals = none
 freeC : ∀ x c, X.env.cells.lookup x = some c → H c = none
 pin : ∀ p ∈ X.pn ++ pins, s.heap.get? p.1 = some p.2 ∧ H p.1 = none ∧ p.1 ≠ X.env.locals ∧ p.1 ∉ X.fs ∧ ∀ v, p.2.data ≠ .cell v
 hok : HOk X.prog X.w H s.heap
 len : σ.length = X.N.length
section
variable {X : Cx} {pins : List (Addr × Obj)} {σ : List (Option V)} {H H' : Hp} {s : Shared} {h' : Heap}
theorem Cx.Ok.nofr (ok : X.Ok) {b : Addr} {o : Obj} (e : X.base.get? b = some o) : b ∉ X.fs := fun hb => by
 have := (ok.funs.mem hb).1
 rw [e] at this; cases this
theorem Inv.bs (I : Inv X pins σ H s) : ∀ b o, X.base.get? b = some o → s.heap.get? b = some o ∧ H b = none := fun b o e =>
 ⟨I.base.keep b o (I.ok.bs b o e).1 (I.ok.bs b o e).2 (I.ok.nofr e) (I.ok.noex b o e), I.base.free b o (I.ok.bs b o e).1 (I.ok.bs b o e).2 (I.ok.noex b o e)⟩
theorem Inv.bk (I : Inv X pins σ H s) : ∀ b o, X.base.get? b = some o → s.heap.get? b = some o := fun b o e => (I.bs b o e).1
theorem Inv.mod (I : Inv X pins σ H s) : Mod X.K X.mg X.base := I.ok.mod
theorem Inv.kIn (I : Inv X pins σ H s) : X.K.In s.heap := I.ok.mod.kin.keeps I.bk
theorem Inv.lt (I : Inv X pins σ H s) : X.env.locals < s.heap.objs.size := let ⟨_, hn, _⟩ := I.loc; hn.lt
theorem Inv.sz (I : Inv X pins σ H s) : X.s₀.heap.objs.size ≤ s.heap.objs.size := Nat.le_trans I.ok.above (Nat.le_of_lt I.lt)
theorem Inv.nofs (I : Inv X pins σ H s) {a : Addr} (h : s.heap.objs.size ≤ a) : a ∉ X.fs := fun hb => by
 obtain ⟨_, o, ho, _⟩ := I.ok.funs.mem hb
 exact absurd (Nat.lt_of_lt_of_le (Heap.lt_size ho) (Nat.le_trans I.sz h)) (Nat.lt_irrefl _)
theorem Inv.cne (I : Inv X pins σ H s) : ∀ x c, X.env.cells.lookup x = some c → c ≠ X.env.locals := fun x c e z => by
 obtain ⟨v, o, ho, hd⟩ := I.cell x c e
 obtain ⟨m, ⟨o', es, ep, ho', hd', _⟩, _⟩ := I.loc
 rw [z, ho'] at ho; cases ho; rw [hd'] at hd; cases hd
theorem Inv.funs (I : Inv X pins σ H s) : s.heap.FunFrames X.base X.outer := by
 have all : ∀ (l : List Env), (∀ b ∈ frs l, b ∈ X.fs) → X.s₀.heap.FunFrames X.base l → s.heap.FunFrames X.base l := by
  intro l
  induction l with
  | nil => intro _ _; trivial
  | cons env r ih =>
   intro hs hl
   obtain ⟨hk, ⟨L, o, hf, hn, ho, hd⟩, hr⟩ := hl
   have hL : L ∈ X.fs := hs L (by unfold frs; rw [List.filterMap_cons, hf]; exact List.mem_cons_self)
   obtain ⟨sl, e⟩ := I.base.slot L o ho (I.ok.frf L hL) hL fun z => I.ok.exfs L z hL
   exact ⟨hk, ⟨L, _, hf, hn, e, hd⟩, ih (fun b hb => hs b (by unfold frs; rw [List.filterMap_cons, hf]; exact List.mem_cons_of_mem _ hb)) hr⟩
 exact all X.outer (fun _ hb => hb) I.ok.funs
theorem Inv.stack (I : Inv X pins σ H s) : s.heap.FunFrames X.base X.stack := by
 rcases I.ok.stk with e | ⟨e, hf⟩
 ·rw [e]; exact I.funs
 ·rw [e]
  obtain ⟨m, hn, _⟩ := I.loc
  refine .cons (by rw [I.ok.kind]; decide) hf hn ?_ I.funs
  exact Heap.get?_none_of_le (Nat.le_trans I.ok.bsz I.ok.above)
theorem Inv.stkSub (I : Inv X pins σ H s) : ∀ b ∈ frs X.stack, b ∈ X.env.locals :: X.fs := fun b hb => by
 rcases I.ok.stk with e | ⟨e, hf⟩
 ·rw [e] at hb; exact List.mem_cons_of_mem _ hb
 ·rw [e] at hb
  unfold frs at hb
  rw [List.filterMap_cons, hf] at hb
  exact hb
theorem Inv.stkFree (I : Inv X pins σ H s) : ∀ b ∈ frs X.stack, H b = none := fun b hb => by
 rcases List.mem_cons.mp (I.stkSub b hb) with e | hb
 ·rw [e]; exact I.free
 ·obtain ⟨_, o, ho, _⟩ := I.ok.funs.mem hb
  exact I.base.free b o ho (I.ok.frf b hb) fun z => I.ok.exfs b z hb
theorem Inv.step {g' : Array GenState} {t' : Nat} {d' : Drawn} {ch : List Addr} (I : Inv X pins σ H s)
  (hch : ∀ b ∈ ch, (b ∈ X.ex ∨ X.s₀.heap.objs.size ≤ b) ∧ b ≠ X.env.locals ∧ (∀ x c, X.env.cells.lookup x = some c → c ≠ b) ∧ ∀ p ∈ X.pn ++ pins, p.1 ≠ b)
  (keep : ∀ b o, b ≠ X.env.locals → b ∉ X.fs → b ∉ ch → s.heap.get? b = some o → H b = none → h'.get? b = some o)
  (slot : ∀ b o, b ≠ X.env.locals → b ∈ X.fs → b ∉ ch → s.heap.get? b = some o → H b = none → ∃ sl, h'.get? b = some { o with slots := sl }) (free : ∀ b o, b ∉ ch → s.heap.get? b = some o → H b = none → H' b = none)
  (there : ∀ b o, b ∉ ch → s.heap.get? b = some o → ∃ o', h'.get? b = some o')
  (tups : ∀ b xs, H b = some (.tup xs) → H' b = some (.tup xs)) (frzs : ∀ b o u, H b = some (.frz o u) → H' b = some (.frz o u)) (tbls : ∀ b ps, H b = some (.tbl ps) → ∃ more, H' b = some (.tbl (ps ++ more)))
  (ns : ∀ m, s.heap.Ns X.env.locals m → h'.Ns X.env.locals m) (hok : HOk X.prog X.w H' h') (hg : AllBare g') :
  Inv X pins σ H' { s with heap := h', gens := g', drawn := d', toks := t' } := by
 have neL : ∀ b o, X.s₀.heap.get? b = some o → b ≠ X.env.locals := fun b o e => Nat.ne_of_lt (Nat.lt_of_lt_of_le (Heap.lt_size e) I.ok.above)
 have neC : ∀ b o, X.s₀.heap.get? b = some o → b ∉ X.ex → b ∉ ch := fun b o e hx hb => by
  rcases (hch b hb).1 with z | z
  ·exact hx z
  ·exact absurd (Nat.lt_of_lt_of_le (Heap.lt_size e) z) (Nat.lt_irrefl _)
 have cellK : ∀ x c, X.env.cells.lookup x = some c → ∀ v, s.heap.IsCell c v → h'.IsCell c v := fun x c e v ⟨o, ho, hd⟩ => by
  have nch : c ∉ ch := fun z => (hch c z).2.2.1 x c e rfl
  by_cases hc : c ∈ X.fs
  ·obtain ⟨sl, q⟩ := slot c o (I.cne x c e) hc nch ho (I.freeC x c e)
   exact ⟨_, q, hd⟩
  ·exact ⟨o, keep c o (I.cne x c e) hc nch ho (I.freeC x c e), hd⟩
 refine ⟨I.ok, I.os, hg, ⟨fun b o e n hb hx => ?_, fun b o e n hb hx => ?_, fun b o e n hx => ?_, fun b o e hx => ?_, fun b xs e => tups b xs (I.base.tups b xs e), fun b o xs e => frzs b o xs (I.base.frzs b o xs e), fun b ps e => ?_⟩, ?_, fun x c e => ?_, ?_, fun x c e => ?_, fun p hp => ?_, hok, I.len⟩
 ·exact keep b o (neL b o e) hb (neC b o e hx) (I.base.keep b o e n hb hx) (I.base.free b o e n hx)
 ·obtain ⟨sl, e1⟩ := I.base.slot b o e n hb hx
  obtain ⟨sl', e2⟩ := slot b _ (neL b o e) hb (neC b o e hx) e1 (I.base.free b o e n hx)
  exact ⟨sl', e2⟩
 ·obtain ⟨o', e1⟩ := I.base.there b o e hx
  exact free b o' (neC b o e hx) e1 (I.base.free b o e n hx)
 ·obtain ⟨o', e1⟩ := I.base.there b o e hx
  exact there b o' (neC b o e hx) e1
 ·obtain ⟨m1, e1⟩ := I.base.tbls b ps e
  obtain ⟨m2, e2⟩ := tbls b _ e1
  exact ⟨m1 ++ m2, by rw [e2, Array.append_assoc]⟩
 ·obtain ⟨m, hn, hl⟩ := I.loc
  refine ⟨m, ns m hn, fun i x v e1 e2 e3 => ?_⟩
  obtain ⟨u, r, l⟩ := hl i x v e1 e2 e3
  refine ⟨u, r, ?_⟩
  rcases l with l | ⟨k, c, e, z⟩
  ·exact .inl l
  ·exact .inr ⟨k, c, e, cellK x c e _ z⟩
 ·obtain ⟨v, z⟩ := I.cell x c e
  exact ⟨v, cellK x c e v z⟩
 ·obtain ⟨m, ⟨o, _, _, ho, _⟩, _⟩ := I.loc
  exact free _ o (fun z => (hch _ z).2.1 rfl) ho I.free
 ·obtain ⟨v, o, ho, hd⟩ := I.cell x c e
  exact free c o (fun z => (hch c z).2.2.1 x c e rfl) ho (I.freeC x c e)
 ·obtain ⟨e, n, ne, nf, d⟩ := I.pin p hp
  have nch : p.1 ∉ ch := fun z => (hch p.1 z).2.2.2 p hp rfl
  exact ⟨keep p.1 p.2 ne nf nch e n, free p.1 p.2 nch e n, ne, nf, d⟩
theorem Inv.un {t' : Nat} (I : Inv X pins σ H s) (u : Un X.fs [] H H' s.heap h') (hok : HOk X.prog X.w H' h') : Inv X pins σ H' { s with heap := h', toks := t' } := by
 obtain ⟨m, ⟨o, es, ep, ho, r⟩, _⟩ := id I.loc
 obtain ⟨sl, hL⟩ := u.any ho I.free (by simp)
 exact I.step (g' := s.gens) (d' := s.drawn) (ch := []) (fun _ z => nomatch z) (fun b o _ hb _ e n => u.keep b o e n hb (by simp)) (fun b o _ hb _ e n => u.slot b o e n hb (by simp)) (fun b o _ e n => u.free b o e n (by simp)) (fun b o _ e => u.there b o e (by simp)) u.tups u.frzs u.tbls (fun m' hm => by
  obtain ⟨o', es', ep', ho', r'⟩ := hm
  rw [ho] at ho'; cases ho'
  exact ⟨_, es', ep', hL, r'⟩) hok I.bare
theorem Inv.call {g' : Array GenState} {t' : Nat} {d' : Drawn} {ch : List Addr} (I : Inv X pins σ H s) (u : Un (frs X.stack) ch H H' s.heap h') (hok : HOk X.prog X.w H' h') (hg : AllBare g')
  (hch : ∀ b ∈ ch, (b ∈ X.ex ∨ X.s₀.heap.objs.size ≤ b) ∧ b ≠ X.env.locals ∧ (∀ x c, X.env.cells.lookup x = some c → c ≠ b) ∧ ∀ p ∈ X.pn ++ pins, p.1 ≠ b) :
  Inv X pins σ H' { s with heap := h', gens := g', drawn := d', toks := t' } := by
 obtain ⟨m, ⟨o, es, ep, ho, r⟩, _⟩ := id I.loc
 obtain ⟨sl, hL⟩ := u.any ho I.free fun z => (hch _ z).2.1 rfl
 exact I.step (ch := ch) hch (fun b o hL hb hc e n => u.keep b o e n (fun z => (List.mem_cons.mp (I.stkSub b z)).elim hL hb) hc) (fun b o _ _ hc e n => u.any e n hc) (fun b o hc e n => u.free b o e n hc) (fun b o hc e => u.there b o e hc) u.tups u.frzs u.tbls (fun m' hm => by
  obtain ⟨o', es', ep', ho', r'⟩ := hm
  rw [ho] at ho'; cases ho'
  exact ⟨_, es', ep', hL, r'⟩) hok hg
theorem Inv.turned {t' : Nat} {it : Addr} (I : Inv X pins σ H s) (k : ∀ b o, b ≠ it → s.heap.get? b = some o → h'.get? b = some o) (hn : H it = none) (hL : it ≠ X.env.locals)
  (h1 : it ∈ X.ex ∨ X.s₀.heap.objs.size ≤ it) (h2 : ∀ x c, X.env.cells.lookup x = some c → c ≠ it) (h3 : ∀ p ∈ X.pn ++ pins, p.1 ≠ it) : Inv X pins σ H { s with heap := h', toks := t' } := by
 have nit : ∀ b u, H b = some u → b ≠ it := fun b u e z => by rw [z, hn] at e; cases e
 refine I.step (g' := s.gens) (d' := s.drawn) (ch := [it]) (fun b hb => ?_) (fun b o _ _ hc e _ => k b o (fun z => hc (by simp [z])) e) (fun b o _ _ hc e _ => ⟨o.slots, k b o (fun z => hc (by simp [z])) e⟩) (fun _ _ _ _ n => n)
  (fun b o hc e => ⟨o, k b o (fun z => hc (by simp [z])) e⟩) (fun _ _ e => e) (fun _ _ _ e => e) (fun b ps e => ⟨#[], by rw [e]; simp⟩) (fun m hm => ?_) (fun b u e => ?_) I.bare
 ·have e : b = it := by simpa using hb
  subst e
  exact ⟨h1, hL, h2, h3⟩
 ·obtain ⟨o, es, ep, ho, r⟩ := hm
  exact ⟨o, es, ep, k _ o (Ne.symm hL) ho, r⟩
 ·refine (I.hok b u e).stay (fun c v hc q => k c v ?_ q) (fun _ q => q) fun _ _ q => q
  rcases hc with z | z
  ·rw [z]; exact nit b u e
  ·exact nit c _ z
theorem Inv.tok (I : Inv X pins σ H s) (t : Nat) : Inv X pins σ H { s with toks := t } := I.un (h' := s.heap) (t' := t) Un.refl I.hok
theorem Inv.kept {t' : Nat} (I : Inv X pins σ H s) (k : ∀ b u, s.heap.get? b = some u → h'.get? b = some u) : Inv X pins σ H { s with heap := h', toks := t' } := I.un (Un.kept k) (I.hok.kept k)
theorem Inv.laid {a : Addr} {o : HO} {t' : Nat} (I : Inv X pins σ H s) (k : ∀ b u, s.heap.get? b = some u → h'.get? b = some u) (hp : s.heap.objs.size ≤ a) (new : ObjOk X.prog X.w (upd H a o) h' a o) :
  Inv X pins σ (upd H a o) { s with heap := h', toks := t' } := I.un (Un.laid k hp (I.hok.fresh hp)) (I.hok.laid k hp new)
theorem Inv.write {x e : Addr} {o : HO} {t' : Nat} (I : Inv X pins σ H s) (mu : Mut (H x)) (he : e = x ∨ H e = some (.own x)) (k : ∀ b u, b ≠ e → s.heap.get? b = some u → h'.get? b = some u) (heo : ∃ u, h'.get? e = some u)
  (new : ObjOk X.prog X.w (upd H x o) h' x o) : Inv X pins σ (upd H x o) { s with heap := h', toks := t' } := I.un (Un.write mu he k heo) (I.hok.write mu he k heo new)
theorem Inv.pins_of {pins' : List (Addr × Obj)} (I : Inv X pins σ H s) (h : ∀ p ∈ pins', s.heap.get? p.1 = some p.2 ∧ H p.1 = none ∧ p.1 ≠ X.env.locals ∧ p.1 ∉ X.fs ∧ ∀ v, p.2.data ≠ .cell v) : Inv X pins' σ H s :=
 ⟨I.ok, I.os, I.bare, I.base, I.loc, I.cell, I.free, I.freeC, fun p hp => (List.mem_append.mp hp).elim (fun z => I.pin p (List.mem_append_left _ z)) (h p), I.hok, I.len⟩
theorem fB {N : List Str} (hN : N.Nodup) {i j : Nat} {x : Str} (a : N[i]? = some x) (b : N[j]? = some x) : i = j := by
 obtain ⟨h1, e1⟩ := List.getElem?_eq_some_iff.mp a
 obtain ⟨h2, e2⟩ := List.getElem?_eq_some_iff.mp b
 exact (List.getElem_inj hN).mp (e1.trans e2.symm)
theorem mQ {M : Model} {A : Around} {E : Value → Shared → Prop} {i : Nat} {x : Str} {v : V} {u : Value} {Q : Unit → Shared → Prop} (I : Inv X pins σ H s) (hN : X.N.Nodup) (hi : X.N[i]? = some x) (hx : Loc X.env.scope x) (r : RelV v u)
  (h : ∀ s', Inv X pins (σ.set i (some v)) H s' → (∃ a, Heap.SameBut a s.heap s'.heap ∧ (a = X.env.locals ∨ X.env.cells.lookup x = some a)) → Q () s') (hf : X.fn x = true ∨ X.env.scope.names.lookup x = some .local := by first | exact .inl rfl | exact .inr rfl | assumption) : wpAny M A (storeName X.env x u) Q E s := by
 obtain ⟨m, hn, hl⟩ := id I.loc
 have hcls : (X.env.scope.kind == .class || (X.env.scope.kind == .module && X.env.locals != X.env.globals)) = false := by rw [I.ok.kind]; rfl
 have hiσ : i < σ.length := by rw [I.len]; exact (List.getElem?_eq_some_iff.mp hi).1
 have cne := I.cne
 have tracked : ∀ {a : Addr} {h' : Heap}, (∃ o, s.heap.get? a = some o ∧ H a = none) → Heap.SameBut a s.heap h' → HOk X.prog X.w H h' := fun {a h'} ha hs b ob e => by
  obtain ⟨_, _, hfree⟩ := ha
  refine (I.hok b ob e).stay (fun c w' hc q => (hs.2 c ?_).trans q) (fun _ q => q) fun _ _ q => q
  rintro rfl
  rcases hc with rfl | hc
  ·rw [hfree] at e; cases e
  ·rw [hfree] at hc; cases hc
 rcases hx with hk | hk
 ·refine wpAny_storeName_local hk hn (fun h' hn' hs => ?_) hcls
  obtain ⟨oL, _, _, hoL, _⟩ := id hn
  refine h _ ⟨I.ok, I.os, I.bare, ⟨fun b o e n hb hx => ?_, fun b o e n hb hx => ?_, I.base.free, fun b o e hx => ?_, I.base.tups, I.base.frzs, I.base.tbls⟩, ⟨_, hn', fun j y v' e1 e2 e3 => ?_⟩, fun y c e => ?_, I.free, I.freeC, fun p hp => ?_, tracked ⟨oL, hoL, I.free⟩ hs, by simpa using I.len⟩ ⟨_, hs, .inl rfl⟩
  ·exact (hs.2 b (Nat.ne_of_lt (Nat.lt_of_lt_of_le (Heap.lt_size e) I.ok.above))).trans (I.base.keep b o e n hb hx)
  ·obtain ⟨sl, e1⟩ := I.base.slot b o e n hb hx
   exact ⟨sl, (hs.2 b (Nat.ne_of_lt (Nat.lt_of_lt_of_le (Heap.lt_size e) I.ok.above))).trans e1⟩
  ·obtain ⟨o', e1⟩ := I.base.there b o e hx
   exact ⟨o', (hs.2 b (Nat.ne_of_lt (Nat.lt_of_lt_of_le (Heap.lt_size e) I.ok.above))).trans e1⟩
  ·by_cases hj : j = i
   ·subst hj
    rw [hi] at e1; cases e1
    rw [List.getElem?_set_self hiσ] at e2
    cases e2
    exact ⟨u, r, .inl ⟨hk, by simp⟩⟩
   ·rw [List.getElem?_set_ne (Ne.symm hj)] at e2
    obtain ⟨u', r', q⟩ := hl j y v' e1 e2 e3
    refine ⟨u', r', ?_⟩
    rcases q with ⟨k, e⟩ | ⟨k, c, e, z⟩
    ·refine .inl ⟨k, ?_⟩
     have : y ≠ x := fun e => hj (fB hN e1 (e ▸ hi))
     simp [this, e]
    ·exact .inr ⟨k, c, e, z.sameBut hs (cne y c e)⟩
  ·obtain ⟨w', z⟩ := I.cell y c e
   exact ⟨w', z.sameBut hs (cne y c e)⟩
  ·obtain ⟨e, n, ne, nf, d⟩ := I.pin p hp
   exact ⟨(hs.2 p.1 ne).trans e, n, ne, nf, d⟩
 ·have hfn : X.fn x = true := by
   rcases hf with z | z
   ·exact z
   ·rw [z] at hk; cases hk
  obtain ⟨c, hc⟩ := I.ok.has x (.inl hk)
  obtain ⟨w', z⟩ := I.cell x c hc
  refine wpAny_storeName_cell I.ok.kind hk hc z (fun h' hc' hs => ?_)
  obtain ⟨oc, hoc, hocd⟩ := id z
  refine h { s with heap := h' } ⟨I.ok, I.os, I.bare, ⟨fun b o e n hb hx => ?_, fun b o e n hb hx => ?_, I.base.free, fun b o e hx => ?_, I.base.tups, I.base.frzs, I.base.tbls⟩, ⟨m, hn.sameBut hs (Ne.symm (cne x c hc)), fun j y v' e1 e2 e3 => ?_⟩, fun y c' e => ?_, I.free, I.freeC, fun p hp => ?_, tracked ⟨oc, hoc, I.freeC x c hc⟩ hs, by simpa using I.len⟩ ⟨c, hs, .inr hc⟩
  ·exact (hs.2 b (Nat.ne_of_lt (Nat.lt_of_lt_of_le (Heap.lt_size e) (I.ok.cab x c hfn hc)))).trans (I.base.keep b o e n hb hx)
  ·obtain ⟨sl, e1⟩ := I.base.slot b o e n hb hx
   exact ⟨sl, (hs.2 b (Nat.ne_of_lt (Nat.lt_of_lt_of_le (Heap.lt_size e) (I.ok.cab x c hfn hc)))).trans e1⟩
  ·obtain ⟨o', e1⟩ := I.base.there b o e hx
   exact ⟨o', (hs.2 b (Nat.ne_of_lt (Nat.lt_of_lt_of_le (Heap.lt_size e) (I.ok.cab x c hfn hc)))).trans e1⟩
  ·by_cases hj : j = i
   ·subst hj
    rw [hi] at e1; cases e1
    rw [List.getElem?_set_self hiσ] at e2
    cases e2
    exact ⟨u, r, .inr ⟨.inl hk, c, hc, hc'⟩⟩
   ·rw [List.getElem?_set_ne (Ne.symm hj)] at e2
    obtain ⟨u', r', q⟩ := hl j y v' e1 e2 e3
    refine ⟨u', r', ?_⟩
    rcases q with q | ⟨k, c', e, z'⟩
    ·exact .inl q
    ·refine .inr ⟨k, c', e, z'.sameBut hs ?_⟩
     rintro rfl
     exact hj (fB hN e1 (I.ok.inj _ _ _ e hc ▸ hi))
  ·by_cases hcc : c' = c
   ·subst hcc; exact ⟨_, hc'⟩
   ·obtain ⟨w2, z2⟩ := I.cell y c' e
    exact ⟨w2, z2.sameBut hs hcc⟩
  ·obtain ⟨e, n, ne, nf, d⟩ := I.pin p hp
   refine ⟨(hs.2 p.1 ?_).trans e, n, ne, nf, d⟩
   intro q
   rw [q, hoc] at e
   have q' : oc = p.2 := Option.some.inj e
   exact d w' (by rw [← q']; exact hocd)
theorem fC {M : Model} {A : Around} {E : Value → Shared → Prop} {i : Nat} {x : Str} {v : V} {u : Value} {Q : Unit → Shared → Prop} (I : Inv X pins σ H s) (hN : X.N.Nodup) (hi : X.N[i]? = some x) (hx : Loc X.env.scope x) (r : RelV v u)
  (h : ∀ s', Inv X pins (σ.set i (some v)) H s' → Q () s') (hf : X.fn x = true ∨ X.env.scope.names.lookup x = some .local := by first | exact .inl rfl | exact .inr rfl | assumption) : wpAny M A (storeName X.env x u) Q E s :=
 mQ I hN hi hx r (fun s' I' _ => h s' I') hf
theorem Inv.call' {s' : Shared} {ch : List Addr} (I : Inv X pins σ H s) (ho : s'.os = s.os) (u : Un (frs X.stack) ch H H' s.heap s'.heap) (hok : HOk X.prog X.w H' s'.heap) (hg : AllBare s'.gens)
  (hch : ∀ b ∈ ch, (b ∈ X.ex ∨ X.s₀.heap.objs.size ≤ b) ∧ b ≠ X.env.locals ∧ (∀ x c, X.env.cells.lookup x = some c → c ≠ b) ∧ ∀ p ∈ X.pn ++ pins, p.1 ≠ b) : Inv X pins σ H' s' := by
 obtain ⟨h', g', d', t', o'⟩ := s'
 have e : o' = s.os := ho
 subst e
 exact I.call (g' := g') (t' := t') (d' := d') u hok hg hch
end
abbrev XK := Value → Option Addr → Hp → Prop
abbrev St := List (Option V)
abbrev VK := V → Hp → Prop
abbrev TE := St → Hp → VK → Prop
abbrev TT := St → Hp → (Bool → Hp → Prop) → Prop
abbrev TA := St → Hp → (List V → Hp → Prop) → Prop
structure Ends where
 nx : St → Hp → Prop
 rt : VK
 bk : St → Hp → Prop := fun _ _ => False
 ct : St → Hp → Prop := fun _ _ => False
abbrev TS := Ends → St → Hp → Prop
def EP (X : Cx) (pins : List (Addr × Obj)) (σ : St) (Q : VK) (u : Value) (s' : Shared) : Prop := ∃ v H', Inv X pins σ H' s' ∧ RelV v u ∧ Q v H'
def TP (X : Cx) (pins : List (Addr × Obj)) (σ : St) (Q : Bool → Hp → Prop) (b : Bool) (s' : Shared) : Prop := ∃ H', Inv X pins σ H' s' ∧ Q b H'
def AP (X : Cx) (pins : List (Addr × Obj)) (σ : St) (Q : List V → Hp → Prop) (us : List Value) (s' : Shared) : Prop := ∃ vs H', Inv X pins σ H' s' ∧ Vals vs us ∧ Q vs H'
def SP (X : Cx) (pins : List (Addr × Obj)) (D : Ends) (f : Flow) (s' : Shared) : Prop :=
 match f with
 | .next => ∃ σ' H', Inv X pins σ' H' s' ∧ D.nx σ' H'
 | .brk => ∃ σ' H', Inv X pins σ' H' s' ∧ D.bk σ' H'
 | .cont => ∃ σ' H', Inv X pins σ' H' s' ∧ D.ct σ' H'
 | .ret u => ∃ v σ' H', Inv X pins σ' H' s' ∧ RelV v u ∧ D.rt v H'
def PE (X : Cx) (e : Expr) (t : TE) : Prop :=
 ∀ (pins : List (Addr × Obj)) (s : Shared) (σ : St) (H : Hp) (Q : VK), Inv X pins σ H s → t σ H Q → wpAny (model X.prog X.w) X.A (eval e X.env) (EP X pins σ Q) X.xe s
def PT (X : Cx) (e : Expr) (t : TT) : Prop :=
 ∀ (pins : List (Addr × Obj)) (s : Shared) (σ : St) (H : Hp) (Q : Bool → Hp → Prop), Inv X pins σ H s → t σ H Q → wpAny (model X.prog X.w) X.A (isTrue e X.env (eval e X.env)) (TP X pins σ Q) X.xe s
def PW (X : Cx) (e : Expr) (t : TT) : Prop :=
 ∀ (whole : Sem Value) (pins : List (Addr × Obj)) (s : Shared) (σ : St) (H : Hp) (Q : Bool → Hp → Prop), Inv X pins σ H s → t σ H Q → wpAny (model X.prog X.w) X.A (isTrue e X.env whole) (TP X pins σ Q) X.xe s
theorem PW.pt {X : Cx} {e : Expr} {t : TT} (h : PW X e t) : PT X e t := h _
def PA (X : Cx) (es : List Expr) (t : TA) : Prop :=
 ∀ (pos : Pos) (pins : List (Addr × Obj)) (s : Shared) (σ : St) (H : Hp) (Q : List V → Hp → Prop), Inv X pins σ H s → t σ H Q → wpAny (model X.prog X.w) X.A (spliced (backTo pos (starEach es X.env))) (AP X pins σ Q) X.xe s
def PS (X : Cx) (st : Stmt) (t : TS) : Prop :=
 ∀ (pins : List (Addr × Obj)) (s : Shared) (σ : St) (H : Hp) (D : Ends), Inv X pins σ H s → t D σ H → wpAny (model X.prog X.w) X.A (exec st X.env) (SP X pins D) X.xe s
def PSs (X : Cx) (st : List Stmt) (t : TS) : Prop :=
 ∀ (pins : List (Addr × Obj)) (s : Shared) (σ : St) (H : Hp) (D : Ends), Inv X pins σ H s → t D σ H → wpAny (model X.prog X.w) X.A (execs st X.env) (SP X pins D) X.xe s
theorem thn {α : Type} {t : Sem α} {Q Q' : α → Shared → Prop} {M : Model} {A : Around} {E : Value → Shared → Prop} {s : Shared} (h : wpAny M A t Q E s) (hQ : ∀ a s, Q a s → Q' a s) : wpAny M A t Q' E s := wpAny_mono h hQ fun _ _ x => x
end L2
namespace L2
open PySem PySem.Spec PyProof.Rows
section
variable {X : Cx}
def tVar (i : Nat) : TE := fun σ H Q => ∃ v, σ[i]? = some (some v) ∧ Q v H
def tC (v : V) : TE := fun _ H Q => Q v H
theorem fD {i : Nat} {x : Str} {pos : Pos} (hN : X.N[i]? = some x) (hv : Vis X.env.scope x) (hd : (x == ("__debug__" : Str)) = false := by decide) (hcd : (x == ("__classdict__" : Str)) = false := by decide) : PE X (.Name x pos) (tVar i) := by
 intro pins s σ H Q I h
 obtain ⟨v, e, h⟩ := h
 obtain ⟨m, hn, hl⟩ := I.loc
 obtain ⟨u, r, l⟩ := hl i x v hN e hv
 have fin : EP X pins σ Q u s := ⟨v, H, I, r, h⟩
 rcases l with ⟨hk, hm⟩ | ⟨hk, c, hc, hcell⟩
 ·exact wpAny_Name (wpAny_loadName_local I.ok.kind hk hn hm fin) hd
 ·rcases hk with hk | hk
  ·exact wpAny_Name (wpAny_loadName_cell I.ok.kind hk hc hcell fin) hd
  ·exact wpAny_Name (wpAny_loadName_free I.ok.kind hk hc hcell fin hcd) hd
theorem oD {i j pos} : PE X (.Constant (.int i) j pos) (tC (.int i)) := fun _ _ _ H _ I h => wpAny_Constant_int ⟨.int i, H, I.tok _, ⟨_, rfl⟩, h⟩
theorem pe_bl {b j pos} : PE X (.Constant (.bool b) j pos) (tC (.bl b)) := fun _ _ _ H _ I h => Constant_bool ⟨.bl b, H, I, rfl, h⟩
theorem pe_non {j pos} : PE X (.Constant .none j pos) (tC .non) := fun _ _ _ H _ I h => Constant_none ⟨.non, H, I, rfl, h⟩
theorem pe_str {x j pos} : PE X (.Constant (.str x) j pos) (tC (.str x)) := fun _ _ _ H _ I h => Calls.Constant_str ⟨.str x, H, I.tok _, ⟨_, rfl⟩, h⟩
def Gl (X : Cx) (x : Str) : Prop := X.env.kindOf x = some .globalImplicit
theorem eV {E : Value → Shared → Prop} {pins : List (Addr × Obj)} {s : Shared} {σ : St} {H : Hp} {x : Str} {u : Value} {pos : Pos} {Q : Value → Shared → Prop} (I : Inv X pins σ H s) (hg : Gl X x) (hm : X.mg x = some u) (h : Q u s)
  (hd : (x == ("__debug__" : Str)) = false := by decide) : wpAny (model X.prog X.w) X.A (eval (.Name x pos) X.env) Q E s :=
 Calls.Name_function_global I.ok.kind hg (Calls.loadGlobal_global (by rw [I.ok.glob]; exact I.mod.glob.keeps I.bk) hm h) hd
theorem iG {E : Value → Shared → Prop} {pins : List (Addr × Obj)} {s : Shared} {σ : St} {H : Hp} {x : Str} {u : Value} {pos : Pos} {Q : Value → Shared → Prop} (I : Inv X pins σ H s) (hg : Gl X x) (hm : X.mg x = none) (hv : bootBuiltins x = some u) (h : Q u s)
  (hn : x ≠ "__name__" := by decide) (hd : (x == ("__debug__" : Str)) = false := by decide) : wpAny (model X.prog X.w) X.A (eval (.Name x pos) X.env) Q E s := by
 obtain ⟨mb, h1, h2⟩ := I.mod.blt
 exact Calls.Name_function_global I.ok.kind hg (Calls.loadGlobal_builtin (by rw [I.ok.glob]; exact I.mod.glob.keeps I.bk) hm (by rw [I.ok.blt]; exact h1.keeps I.bk) ((h2 x hn).trans hv) h) hd
theorem dJ {x : Str} {v : V} {u : Value} {pos : Pos} (hg : Gl X x) (hm : X.mg x = some u) (r : RelV v u) (hd : (x == ("__debug__" : Str)) = false := by decide) : PE X (.Name x pos) (tC v) :=
 fun _ _ _ H _ I h => eV I hg hm ⟨v, H, I, r, h⟩ hd
theorem lQ {x : Str} {v : V} {u : Value} {pos : Pos} (hg : Gl X x) (hm : X.mg x = none) (hv : bootBuiltins x = some u) (r : RelV v u) (hn : x ≠ "__name__" := by decide) (hd : (x == ("__debug__" : Str)) = false := by decide) : PE X (.Name x pos) (tC v) :=
 fun _ _ _ H _ I h => iG I hg hm hv ⟨v, H, I, r, h⟩ hn hd
variable {a b : Expr} {ta tb : TE} {pos : Pos}
def PC (X : Cx) (op : CmpOp) (a b : Expr) (t : TE) : Prop :=
 ∀ (pins : List (Addr × Obj)) (s : Shared) (σ : St) (H : Hp) (Q : VK), Inv X pins σ H s → t σ H Q →
  wpAny (model X.prog X.w) X.A (eval a X.env) (fun v s₁ => wpAny (model X.prog X.w) X.A (eval b X.env) (fun u s₂ => wpAny (model X.prog X.w) X.A (compareOp op v u) (EP X pins σ Q) X.xe s₂) X.xe s₁) X.xe s
def tIsN (ta : TE) : TE := fun σ H Q => ta σ H fun x H1 => Q (.bl (decide (x = .non))) H1
def tNotN (ta : TE) : TE := fun σ H Q => ta σ H fun x H1 => Q (.bl (!decide (x = .non))) H1
theorem RelV.none_iff {x : V} {v : Value} (r : RelV x v) : (v == Value.none) = decide (x = .non) := by
 cases x with
 | non => cases r; rfl
 | bl _ => cases r; rfl
 | int _ => obtain ⟨t, rfl⟩ := r; rfl
 | str _ => obtain ⟨t, rfl⟩ := r; rfl
 | byt _ => obtain ⟨t, rfl⟩ := r; rfl
 | flt _ => obtain ⟨t, rfl⟩ := r; rfl
 | ref _ => cases r; rfl
 | ty _ => cases r; rfl
theorem pc_isN {j pos'} (ha : PE X a ta) : PC X .Is a (.Constant .none j pos') (tIsN ta) := by
 intro pins s σ H Q I h
 refine thn (ha pins s σ H _ I h) fun v s1 ⟨x, H1, I1, r1, q1⟩ => ?_
 exact Constant_none (is_none_gen ⟨.bl _, H1, I1, by rw [r1.none_iff]; rfl, q1⟩)
theorem pc_notN {j pos'} (ha : PE X a ta) : PC X .IsNot a (.Constant .none j pos') (tNotN ta) := by
 intro pins s σ H Q I h
 refine thn (ha pins s σ H _ I h) fun v s1 ⟨x, H1, I1, r1, q1⟩ => ?_
 exact Constant_none (isnot_none_gen ⟨.bl _, H1, I1, by rw [r1.none_iff]; rfl, q1⟩)
def tB (t : TE) : TT := fun σ H Q => t σ H fun x H1 => ∃ c, x = .bl c ∧ Q c H1
theorem pe_cmp {op : CmpOp} {t : TE} (h : PC X op a b t) (h1 : behindInMarks op b = false := by first | exact nobehind _ (by decide) (by decide) | rfl) : PE X (.Compare a [op] [b] pos) t := fun pins s σ H Q I hw => wpAny_Compare1 (h pins s σ H Q I hw) h1
theorem pt_cmp {op : CmpOp} {t : TE} (h : PC X op a b t) (h1 : behindInMarks op b = false := by first | exact nobehind _ (by decide) (by decide) | rfl) : PT X (.Compare a [op] [b] pos) (tB t) := by
 intro pins s σ H Q I hw
 refine wpAny_isTrue_Compare1 (thn (h pins s σ H _ I hw) fun v s1 h1 => thn h1 fun u s2 h2 => thn h2 fun c s3 ⟨x, H1, I1, r1, q1⟩ => ?_) h1
 obtain ⟨d, rfl, q⟩ := q1
 cases r1
 exact wpAny_truthy_bool ⟨H1, I1, q⟩
variable {tA tB' : TT} {rest : List Expr}
def tAnd (t u : TT) : TT := fun σ H Q => t σ H fun c H1 => if c = true then u σ H1 Q else Q false H1
def tOr (t u : TT) : TT := fun σ H Q => t σ H fun c H1 => if c = true then Q true H1 else u σ H1 Q
def tNot (t : TT) : TT := fun σ H Q => t σ H fun c H1 => Q (!c) H1
theorem pw_and1 (ha : PT X a tA) : PW X (.BoolOp .And [a] pos) tA := by
 intro wh pins s σ H Q I h
 refine isTrue_and (thn (ha pins s σ H Q I h) fun c s1 e => ?_)
 cases c with
 | true => exact isTrue_and_nil e
 | false => exact e
theorem pw_or1 (ha : PT X a tA) : PW X (.BoolOp .Or [a] pos) tA := by
 intro wh pins s σ H Q I h
 refine isTrue_or (thn (ha pins s σ H Q I h) fun c s1 e => ?_)
 cases c with
 | false => exact isTrue_or_nil e
 | true => exact e
theorem pw_and (ha : PT X a tA) (hb : PW X (.BoolOp .And (b :: rest) pos) tB') : PW X (.BoolOp .And (a :: b :: rest) pos) (tAnd tA tB') := by
 intro wh pins s σ H Q I h
 refine isTrue_and (thn (ha pins s σ H _ I h) fun c s1 ⟨H1, I1, q1⟩ => ?_)
 cases c with
 | true => exact hb wh pins s1 σ H1 Q I1 q1
 | false => exact ⟨H1, I1, q1⟩
theorem pw_or (ha : PT X a tA) (hb : PW X (.BoolOp .Or (b :: rest) pos) tB') : PW X (.BoolOp .Or (a :: b :: rest) pos) (tOr tA tB') := by
 intro wh pins s σ H Q I h
 refine isTrue_or (thn (ha pins s σ H _ I h) fun c s1 ⟨H1, I1, q1⟩ => ?_)
 cases c with
 | true => exact ⟨H1, I1, q1⟩
 | false => exact hb wh pins s1 σ H1 Q I1 q1
theorem pt_not (ha : PT X a tA) : PT X (.UnaryOp .Not a pos) (tNot tA) := by
 intro pins s σ H Q I h
 exact isTrue_not (ha pins s σ H (fun c H1 => Q (!c) H1) I h)
def tAndV (ta tb : TE) : TE := fun σ H Q => ta σ H fun x H1 => ∃ c, x = .bl c ∧ if c = true then tb σ H1 Q else Q (.bl false) H1
def tNotV (ta : TE) : TE := fun σ H Q => ta σ H fun x H1 => ∃ c, x = .bl c ∧ Q (.bl (!c)) H1
theorem pe_one {op} {t : TE} (h : PE X a t) : PE X (.BoolOp op [a] pos) t := fun pins s σ H Q I hw => BoolOp_one (h pins s σ H Q I hw)
theorem pe_and (ha : PE X a ta) (hb : PE X (.BoolOp .And (b :: rest) pos) tb) : PE X (.BoolOp .And (a :: b :: rest) pos) (tAndV ta tb) := by
 intro pins s σ H Q I h
 refine BoolOp_and (thn (ha pins s σ H _ I h) fun v s1 ⟨x, H1, I1, r1, q1⟩ => ?_)
 obtain ⟨c, rfl, q1⟩ := q1
 cases r1
 refine wpAny_truthy_bool ?_
 cases c with
 | true => exact hb pins s1 σ H1 Q I1 q1
 | false => exact ⟨.bl false, H1, I1, rfl, q1⟩
theorem pe_not (ha : PE X a ta) : PE X (.UnaryOp .Not a pos) (tNotV ta) := by
 intro pins s σ H Q I h
 refine UnaryOp_ (thn (ha pins s σ H _ I h) fun v s1 ⟨x, H1, I1, r1, q1⟩ => ?_)
 obtain ⟨c, rfl, q1⟩ := q1
 cases r1
 exact not_of (wpAny_truthy_bool ⟨.bl (!c), H1, I1, rfl, q1⟩)
end
end L2
namespace L2
open PySem PySem.Spec PyProof.Rows
def SqL (K : PySem.W.Frag) (H : Hp) (a : Addr) (xs : List V) : Prop :=
 Rd H a (.lst xs) ∨
  ∃ (o : Obj) (its : Array Value) (n : Nat), K.lookup a = some o ∧ o.cls = .type "list" ∧ o.dict = none ∧ o.data = .seq its n ∧ its.size ≤ sizeLine ∧ Vals xs its.toList
def SqT (K : PySem.W.Frag) (H : Hp) (a : Addr) (xs : List V) : Prop :=
 Rd H a (.tup xs) ∨
  ∃ (o : Obj) (its : Array Value) (n : Nat), K.lookup a = some o ∧ o.cls = .type "tuple" ∧ o.data = .seq its n ∧ its.size ≤ sizeLine ∧ Vals xs its.toList
def absV : Value → Option V
 | .none => some .non
 | .bool b => some (.bl b)
 | .int i _ => some (.int i)
 | .str x _ => some (.str x)
 | .bytes b _ => some (.byt b)
 | .float b _ => some (.flt b)
 | .ref a => some (.ref a)
 | .type n => some (.ty n)
 | _ => none
theorem RelV.abs {x : V} {u : Value} (r : RelV x u) : absV u = some x := by
 cases x with
 | non => cases r; rfl
 | bl _ => cases r; rfl
 | int _ => obtain ⟨t, rfl⟩ := r; rfl
 | str _ => obtain ⟨t, rfl⟩ := r; rfl
 | byt _ => obtain ⟨t, rfl⟩ := r; rfl
 | flt _ => obtain ⟨t, rfl⟩ := r; rfl
 | ref _ => cases r; rfl
 | ty _ => cases r; rfl
theorem RelV.inj {x y : V} {u : Value} (r : RelV x u) (q : RelV y u) : x = y := Option.some.inj (r.abs.symm.trans q.abs)
theorem Vals.inj : ∀ {xs ys : List V} {us : List Value}, Vals xs us → Vals ys us → xs = ys
 | _, _, _, .nil, .nil => rfl
 | _, _, _, .cons r t, .cons r' t' => by rw [r.inj r', Vals.inj t t']
section
variable {X : Cx} {pins : List (Addr × Obj)} {σ : St} {H : Hp} {s : Shared} {a : Addr} {xs ys : List V}
theorem SqL.of {K : PySem.W.Frag} (h : H a = some (.lst xs)) : SqL K H a xs := .inl (.inl h)
theorem Inv.list (I : Inv X pins σ H s) (h : SqL X.K H a xs) : ∃ its : List Value, Vals xs its ∧ PlainL s.heap a its.toArray ∧ xs.length ≤ sizeLine := by
 rcases h with h | ⟨o, its, n, hk, hc, hd, hs, hz, r⟩
 ·obtain ⟨z, its, n, r, e⟩ := h.ok I.hok
  exact ⟨its, r, ⟨_, n, e, rfl, rfl, rfl⟩, z⟩
 ·refine ⟨its.toList, r, ⟨o, n, I.kIn a o hk, hc, hd, by simpa using hs⟩, ?_⟩
  have e := r.length
  simp only [Array.length_toList] at e
  omega
theorem Inv.tuple (I : Inv X pins σ H s) (h : SqT X.K H a xs) : ∃ its : List Value, Vals xs its ∧ IsTup s.heap a its.toArray ∧ xs.length ≤ sizeLine := by
 rcases h with h | ⟨o, its, n, hk, hc, hs, hz, r⟩
 ·obtain ⟨z, its, r, p⟩ := h.ok I.hok
  exact ⟨its, r, p, z⟩
 ·refine ⟨its.toList, r, ⟨o, I.kIn a o hk, hc, n, by simpa using hs⟩, ?_⟩
  have e := r.length
  simp only [Array.length_toList] at e
  omega
theorem Inv.list_inj (I : Inv X pins σ H s) (h : SqL X.K H a xs) (h' : SqL X.K H a ys) : xs = ys := by
 obtain ⟨its, r, ⟨o, n, e, _, _, d⟩, _⟩ := I.list h
 obtain ⟨its', r', ⟨o', n', e', _, _, d'⟩, _⟩ := I.list h'
 rw [e] at e'; cases e'
 rw [d] at d'
 injection d' with d1 _
 have : its = its' := by simpa using congrArg Array.toList d1
 subst this
 exact r.inj r'
theorem Inv.tuple_inj (I : Inv X pins σ H s) (h : SqT X.K H a xs) (h' : SqT X.K H a ys) : xs = ys := by
 obtain ⟨its, r, ⟨o, e, _, n, d⟩, _⟩ := I.tuple h
 obtain ⟨its', r', ⟨o', e', _, n', d'⟩, _⟩ := I.tuple h'
 rw [e] at e'; cases e'
 rw [d] at d'
 injection d' with d1 _
 have : its = its' := by simpa using congrArg Array.toList d1
 subst this
 exact r.inj r'
end
abbrev Cx.wish (X : Cx) (E : Value → Shared → Prop) : Cx := { X with xe := E }
abbrev Cx.nox (X : Cx) : Cx := X.wish fun _ _ => False
theorem Cx.Ok.wish {X : Cx} (ok : X.Ok) (E : Value → Shared → Prop) : (X.wish E).Ok :=
 ⟨ok.mod, ok.kind, ok.glob, ok.blt, ok.above, ok.inj, ok.has, ok.cab, ok.hd, ok.frames, ok.stk, ok.exf, ok.bs, ok.bsz, ok.noex, ok.exfs, ok.funs, ok.frf⟩
theorem Cx.Ok.unwish {X : Cx} {E : Value → Shared → Prop} (ok : (X.wish E).Ok) : X.Ok :=
 ⟨ok.mod, ok.kind, ok.glob, ok.blt, ok.above, ok.inj, ok.has, ok.cab, ok.hd, ok.frames, ok.stk, ok.exf, ok.bs, ok.bsz, ok.noex, ok.exfs, ok.funs, ok.frf⟩
section
variable {X : Cx} {pins : List (Addr × Obj)} {σ : St} {H : Hp} {s : Shared} {E : Value → Shared → Prop}
theorem Inv.wish (I : Inv X pins σ H s) (E : Value → Shared → Prop) : Inv (X.wish E) pins σ H s := ⟨I.ok.wish E, I.os, I.bare, I.base, I.loc, I.cell, I.free, I.freeC, I.pin, I.hok, I.len⟩
theorem Inv.unwish (I : Inv (X.wish E) pins σ H s) : Inv X pins σ H s := ⟨I.ok.unwish, I.os, I.bare, I.base, I.loc, I.cell, I.free, I.freeC, I.pin, I.hok, I.len⟩
theorem SP.unwish {D : Ends} {f : Flow} {s' : Shared} (h : SP (X.wish E) pins D f s') : SP X pins D f s' := by
 cases f with
 | next => obtain ⟨σ', H', I, q⟩ := h; exact ⟨σ', H', I.unwish, q⟩
 | brk => obtain ⟨σ', H', I, q⟩ := h; exact ⟨σ', H', I.unwish, q⟩
 | cont => obtain ⟨σ', H', I, q⟩ := h; exact ⟨σ', H', I.unwish, q⟩
 | ret u => obtain ⟨v, σ', H', I, r, q⟩ := h; exact ⟨v, σ', H', I.unwish, r, q⟩
end
section
variable {X : Cx} {st : Stmt} {rest : List Stmt} {t u : TS} {e : Expr} {te : TE} {pos : Pos}
def tNext : TS := fun D σ H => D.nx σ H
def tSeq (t u : TS) : TS := fun D σ H => t { D with nx := u D } σ H
theorem pss_nil : PSs X [] tNext := fun _ _ σ H _ I h => wpAny_execs_nil ⟨σ, H, I, h⟩
theorem fE (h1 : PS X st t) (h2 : PSs X rest u) : PSs X (st :: rest) (tSeq t u) := by
 intro pins s σ H D I h
 refine wpAny_execs_cons (thn (h1 pins s σ H { D with nx := u D } I h) fun f s1 q => ?_)
 cases f with
 | next =>
  obtain ⟨σ', H', I', q⟩ := q
  exact h2 pins s1 σ' H' D I' q
 | ret v => exact q
 | brk => exact q
 | cont => exact q
theorem Inv.quiet {pins : List (Addr × Obj)} {σ : St} {H : Hp} {s : Shared} (I : Inv X pins σ H s) : interactive X.env = false := by simp [interactive, I.ok.kind]
def tDrop (te : TE) : TS := fun D σ H => te σ H fun _ H1 => D.nx σ H1
theorem ps_expr (he : PE X e te) (hs : swapsWith e none pos.line X.env = pure false := by rfl) : PS X (.Expr e pos) (tDrop te) := by
 intro pins s σ H D I h
 exact wpAny_Expr_any (thn (he pins s σ H _ I h) fun v s1 ⟨x, H1, I1, r1, q1⟩ => ⟨σ, H1, I1, q1⟩) I.quiet hs
def tRet (te : TE) : TS := fun D σ H => te σ H D.rt
theorem ps_ret (he : PE X e te) : PS X (.Return (some e) pos) (tRet te) := by
 intro pins s σ H D I h
 exact wpAny_Return_some (thn (he pins s σ H _ I h) fun v s1 ⟨x, H1, I1, r1, q1⟩ => ⟨x, σ, H1, I1, r1, q1⟩)
def tIfS (c : TT) (t u : TS) : TS := fun D σ H => c σ H fun b H1 => if b = true then t D σ H1 else u D σ H1
theorem ps_if {c : Expr} {a b : List Stmt} {tc : TT} (hc : PT X c tc) (ha : PSs X a t) (hb : PSs X b u) : PS X (.If c a b pos) (tIfS tc t u) := by
 intro pins s σ H D I h
 refine wpAny_If (thn (hc pins s σ H _ I h) fun d s1 ⟨H1, I1, q1⟩ => ?_)
 cases d with
 | true => exact ha pins s1 σ H1 D I1 q1
 | false => exact hb pins s1 σ H1 D I1 q1
end
abbrev TG := V → St → Hp → (St → Hp → Prop) → Prop
abbrev TGs := List V → St → Hp → (St → Hp → Prop) → Prop
def PG (X : Cx) (target : Expr) (t : TG) : Prop :=
 ∀ (pins : List (Addr × Obj)) (s : Shared) (σ : St) (H : Hp) (v : V) (u : Value) (Q : St → Hp → Prop), Inv X pins σ H s → RelV v u → t v σ H Q →
  wpAny (model X.prog X.w) X.A (assign target X.env u) (fun _ s' => ∃ σ' H', Inv X pins σ' H' s' ∧ Q σ' H') X.xe s
def PGs (X : Cx) (ts : List Expr) (t : TGs) : Prop :=
 ∀ (pins : List (Addr × Obj)) (s : Shared) (σ : St) (H : Hp) (vs : List V) (us : List Value) (Q : St → Hp → Prop), Inv X pins σ H s → Vals vs us → t vs σ H Q →
  wpAny (model X.prog X.w) X.A (assignInOrder ((assignEach ts X.env).map (·.2)) us) (fun _ s' => ∃ σ' H', Inv X pins σ' H' s' ∧ Q σ' H') X.xe s
abbrev TSet := V → V → V → Hp → (Hp → Prop) → Prop
def PSet (X : Cx) (t : TSet) : Prop :=
 ∀ (pins : List (Addr × Obj)) (s : Shared) (σ : St) (H : Hp) (o i v : V) (ov iv u : Value) (Q : Hp → Prop), Inv X pins σ H s → RelV o ov → RelV i iv → RelV v u → t o i v H Q →
  wpAny (model X.prog X.w) X.A (setItem ov iv u) (fun _ s' => ∃ H', Inv X pins σ H' s' ∧ Q H') X.xe s
section
variable {X : Cx} {pos : Pos}
def gName (i : Nat) : TG := fun v σ H Q => Q (σ.set i (some v)) H
theorem dL {i : Nat} {x : Str} (hN : X.N.Nodup) (hi : X.N[i]? = some x) (hx : Loc X.env.scope x) (hf : X.fn x = true ∨ X.env.scope.names.lookup x = some .local := by first | exact .inl rfl | exact .inr rfl | assumption) : PG X (.Name x pos) (gName i) := by
 intro pins s σ H v u Q I r h
 exact wpAny_assign_Name (fC I hN hi hx r (fun s' I' => ⟨_, H, I', h⟩) hf)
def gNil : TGs := fun vs σ H Q => vs = [] ∧ Q σ H
def gCons (t : TG) (u : TGs) : TGs := fun vs σ H Q => ∃ v r, vs = v :: r ∧ t v σ H fun σ' H' => u r σ' H' Q
theorem pgs_nil : PGs X [] gNil := by
 intro pins s σ H vs us Q I r h
 obtain ⟨e, h⟩ := h
 subst e
 cases r
 exact assignInOrder_nil ⟨σ, H, I, h⟩
theorem jA {e : Expr} {es : List Expr} {t : TG} {u : TGs} (h1 : PG X e t) (h2 : PGs X es u)
  (hs : (assignEach (e :: es) X.env).map (·.2) = assign e X.env :: (assignEach es X.env).map (·.2) := by rfl) : PGs X (e :: es) (gCons t u) := by
 intro pins s σ H vs us Q I r h
 obtain ⟨v, vr, e1, h⟩ := h
 subst e1
 cases r with
 | cons r rr =>
  rw [hs]
  refine assignInOrder_cons (thn (h1 pins s σ H _ _ _ I r h) fun _ s1 ⟨σ1, H1, I1, q1⟩ => ?_)
  exact h2 pins s1 σ1 H1 _ _ Q I1 rr q1
def gTup (K : PySem.W.Frag) (n : Nat) (t : TGs) : TG := fun v σ H Q => ∃ a xs, v = .ref a ∧ SqT K H a xs ∧ xs.length = n ∧ t xs σ H Q
theorem pg_tup {es : List Expr} {k : Nat} {t : TGs} {n : Nat} (hc : X.calm = true) (h : PGs X es t)
  (hn : (assignEach es X.env).length = n := by rfl) (hst : (assignEach es X.env).findIdx? (·.1) = none := by rfl) : PG X (.Tuple es k pos) (gTup X.K n t) := by
 intro pins s σ H v u Q I r hw
 obtain ⟨a, xs, e1, hq, hl, hw⟩ := hw
 subst e1
 cases r
 obtain ⟨its, rv, ht, hz⟩ := I.tuple hq
 refine assign_Tuple_tuple (I.ok.hd hc) ht (by simp [hn, ← hl, rv.length]) hst fun h' hx => ?_
 have I1 : Inv X pins σ H { s with heap := h' } := I.kept (t' := s.toks) fun b o e => hx b o (Nat.ne_of_lt (Heap.lt_size e)) e
 exact h pins _ σ H xs _ Q I1 (by simpa using rv) hw
def gSub (to ti : TE) (t : TSet) : TG := fun v σ H Q => to σ H fun o H1 => ti σ H1 fun i H2 => t o i v H2 fun H3 => Q σ H3
theorem oE {o i : Expr} {to ti : TE} {t : TSet} (ho : PE X o to) (hi : PE X i ti) (hs : PSet X t)
  (ha : ∀ v, assign (.Subscript o i pos) X.env v = (do
   let ov ← holding [v] (eval o X.env)
   let iv ← holding [v, ov] (eval i X.env)
   standAt pos
   holding [v, ov, iv] (setItem ov iv v)
   release [v, ov, iv] []) := by intro _; rfl) : PG X (.Subscript o i pos) (gSub to ti t) := by
 intro pins s σ H v u Q I r h
 rw [ha]
 refine wpAny_bind (wpAny_holding (thn (ho pins s σ H _ I h) fun ov s1 ⟨x, H1, I1, r1, q1⟩ => ?_))
 refine wpAny_bind (wpAny_holding (thn (hi pins s1 σ H1 _ I1 q1) fun iv s2 ⟨y, H2, I2, r2, q2⟩ => ?_))
 refine wpAny_bind (wpAny_standAt (wpAny_bind (wpAny_holding (thn (hs pins s2 σ H2 x y v ov iv u _ I2 r1 r2 r q2) fun _ s3 ⟨H3, I3, q3⟩ => ?_))))
 exact wpAny_release ⟨σ, H3, I3, q3⟩
def tAsg (te : TE) (g : TG) : TS := fun D σ H => te σ H fun x H1 => g x σ H1 D.nx
theorem oF {tg e : Expr} {te : TE} {g : TG} (he : PE X e te) (hg : PG X tg g) (hs : swapsWithSole [tg] e pos.line X.env = pure false := by rfl) (hw : swappedStores [tg] e X.env = pure none := by rfl)
  (h1 : (assignEach [tg] X.env).map (·.2) = [assign tg X.env] := by rfl) : PS X (.Assign [tg] e pos) (tAsg te g) := by
 intro pins s σ H D I h
 refine wpAny_Assign_stores (thn (he pins s σ H _ I h) fun v s1 ⟨x, H1, I1, r1, q1⟩ => ?_) hs hw
 rw [h1]
 exact thn (hg pins s1 σ H1 x v _ I1 r1 q1) fun _ s2 q => q
theorem kE {i : Nat} {x : Str} {e : Expr} {te : TE} {pos' : Pos} (hN : X.N.Nodup) (hi : X.N[i]? = some x) (hx : Loc X.env.scope x) (he : PE X e te) (hs : swapsWith e (some (.Name x pos')) pos.line X.env = pure false := by rfl) (hf : X.fn x = true ∨ X.env.scope.names.lookup x = some .local := by first | exact .inl rfl | exact .inr rfl | assumption) :
  PS X (.Assign [.Name x pos'] e pos) (tAsg te (gName i)) := by
 intro pins s σ H D I h
 refine wpAny_Assign_Name (thn (he pins s σ H _ I h) fun v s1 ⟨y, H1, I1, r1, q1⟩ => ?_) hs
 exact fC I1 hN hi hx r1 (fun s2 I2 => ⟨_, H1, I2, q1⟩) hf
end
section
variable {X : Cx} {pos : Pos}
def tWhile (c : TT) (tb : TS) : TS := fun D σ H => ∃ W : Nat → St → Hp → Prop, (∃ m, W m σ H) ∧ ∀ m σ H, W m σ H →
 c σ H fun b H1 => if b = true then ∃ N : St → Hp → Prop, (∀ σ' H', N σ' H' → ∃ m', m' < m ∧ W m' σ' H') ∧ tb { D with nx := N, ct := N, bk := D.nx } σ H1 else D.nx σ H1
theorem oG {c : Expr} {body : List Stmt} {tc : TT} {tb : TS} (hp : PassesOwn (model X.prog X.w) X.A X.env X.xe) (hc : PT X c tc) (hb : PSs X body tb) : PS X (.While c body [] pos) (tWhile tc tb) := by
 intro pins s σ H D I h
 obtain ⟨W, ⟨m0, w0⟩, turn⟩ := h
 refine wpAny_While (codeAny_whileLoop (fun n s' => ∃ σ' H', Inv X pins σ' H' s' ∧ W n σ' H') ?_ m0 ⟨σ, H, I, w0⟩)
 rintro n s1 ⟨σ1, H1, I1, w1⟩
 refine wpAny_passesOwn hp (thn (hc pins s1 σ1 H1 _ I1 (turn n σ1 H1 w1)) fun b s2 ⟨H2, I2, q2⟩ => ?_)
 cases b with
 | true =>
  obtain ⟨N, hN, q2⟩ := q2
  rw [if_pos rfl]
  refine wpAny_passesOwn hp (thn (hb pins s2 σ1 H2 _ I2 q2) fun f s3 q3 => ?_)
  cases f with
  | next =>
   obtain ⟨σ3, H3, I3, n3⟩ := q3
   obtain ⟨m', hm, w3⟩ := hN σ3 H3 n3
   exact ⟨m', hm, σ3, H3, I3, w3⟩
  | cont =>
   obtain ⟨σ3, H3, I3, n3⟩ := q3
   obtain ⟨m', hm, w3⟩ := hN σ3 H3 n3
   exact ⟨m', hm, σ3, H3, I3, w3⟩
  | brk => exact q3
  | ret v => exact q3
 | false =>
  rw [if_neg Bool.false_ne_true]
  exact wpAny_execs_nil ⟨σ1, H2, I2, q2⟩
end
structure It where
 go : Nat → Hp → Prop
 yld : Nat → Hp → V → Hp → Prop
 stop : Nat → Hp → Prop
def FpOk (X : Cx) (pins : List (Addr × Obj)) (H : Hp) (b : Addr) : Prop :=
 H b = none ∧ b ≠ X.env.locals ∧ b ∉ X.fs ∧ (b ∈ X.ex ∨ X.s₀.heap.objs.size ≤ b) ∧ (∀ x c, X.env.cells.lookup x = some c → c ≠ b) ∧ ∀ p ∈ X.pn ++ pins, p.1 ≠ b
theorem Inv.fpOk {X : Cx} {pins : List (Addr × Obj)} {σ : St} {H H' : Hp} {s : Shared} {b : Addr} (I : Inv X pins σ H s) (hb : s.heap.objs.size ≤ b) (hn : H' b = none) : FpOk X pins H' b := by
 refine ⟨hn, Nat.ne_of_gt (Nat.lt_of_lt_of_le I.lt hb), I.nofs hb, .inr (Nat.le_trans I.sz hb), fun x c e z => ?_, fun p hp z => ?_⟩
 ·obtain ⟨v, q⟩ := I.cell x c e
  exact absurd (Nat.lt_of_lt_of_le q.lt (by rw [z]; exact hb)) (Nat.lt_irrefl _)
 ·exact absurd (Nat.lt_of_lt_of_le (Heap.lt_size (I.pin p hp).1) (by rw [z]; exact hb)) (Nat.lt_irrefl _)
structure Turn (P : Program) (w : World) (K : PySem.W.Frag) (tg : Expr) (J : It) (fp : List Addr) (it : Addr) (tn : Nat → Heap → Prop) : Prop where
 mem : it ∈ fp
 obj : ∀ i h, tn i h → ∀ b ∈ fp, ∃ o, h.get? b = some o ∧ ∀ v, o.data ≠ .cell v
 keep : ∀ i h h', tn i h → (∀ b ∈ fp, ∀ o, h.get? b = some o → h'.get? b = some o) → tn i h'
 item : ∀ (X : Cx), X.prog = P → X.w = w → X.K = K → X.calm = true → ∀ (i : Nat) (pins : List (Addr × Obj)) (s : Shared) (σ : St) (H : Hp) (E : Value → Shared → Prop), Inv X pins σ H s → (∀ b ∈ fp, FpOk X pins H b) → tn i s.heap → J.go i H →
  wpAny (model P w) X.A (pyNext (.ref it)) (fun r s1 => ∃ u, r = some u ∧
   wpAny (model P w) X.A (letOwnedTupleGo tg (.ref it) u) (fun _ s2 => ∃ x H', Inv X pins σ H' s2 ∧ RelV x u ∧ J.yld i H x H' ∧ tn (i + 1) s2.heap ∧ ∀ b ∈ fp, H' b = none) E s1) E s
 done : ∀ (X : Cx), X.prog = P → X.w = w → X.K = K → X.calm = true → ∀ (i : Nat) (pins : List (Addr × Obj)) (s : Shared) (σ : St) (H : Hp) (E : Value → Shared → Prop), Inv X pins σ H s → (∀ b ∈ fp, FpOk X pins H b) → tn i s.heap → J.stop i H →
  wpAny (model P w) X.A (pyNext (.ref it)) (fun r s1 => r = none ∧ Inv X pins σ H s1) E s
 self : ∀ (A : Around) (i : Nat) (s : Shared) (Q : Value → Shared → Prop) (E : Value → Shared → Prop), tn i s.heap → Q (.ref it) s → wpAny (model P w) A (pyIter (.ref it)) Q E s
abbrev TI := St → Hp → (It → Hp → Prop) → Prop
def PIE (X : Cx) (pins : List (Addr × Obj)) (σ : St) (tg : Expr) (R : It → Hp → Prop) (itv : Value) (s2 : Shared) : Prop :=
 ∃ (it : Addr) (fp : List Addr) (tn : Nat → Heap → Prop) (J : It) (H' : Hp), itv = .ref it ∧ Inv X pins σ H' s2 ∧ Turn X.prog X.w X.K tg J fp it tn ∧ tn 0 s2.heap ∧ (∀ b ∈ fp, FpOk X pins H' b) ∧ R J H'
def PI (X : Cx) (tg iter : Expr) (wi : TI) : Prop :=
 ∀ (pins : List (Addr × Obj)) (s : Shared) (σ : St) (H : Hp) (R : It → Hp → Prop), Inv X pins σ H s → wi σ H R →
  wpAny (model X.prog X.w) X.A (eval iter X.env) (fun v s1 => wpAny (model X.prog X.w) X.A (pyIter v) (PIE X pins σ tg R) X.xe s1) X.xe s
theorem oH {M : Model} {A : Around} {E : Value → Shared → Prop} {s : Shared} {tg : Expr} {it : Addr} {u : Value} {o : Obj} {n : String} {vs : Array Value} {Q : Unit → Shared → Prop} (ho : s.heap.get? it = some o) (hc : o.cls = .type n) (hd : o.data = .fields vs)
   (hn : ["enumerate", "zip", "dict_itemiterator", "dict_reverseitemiterator", "odict_iterator", "itertools.zip_longest", "itertools.pairwise"].contains n = false) (hQ : Q () s) : wpAny M A (letOwnedTupleGo tg (.ref it) u) Q E s := by
 unfold letOwnedTupleGo
 cases tg <;> first
   | exact wpAny_pure hQ
   | (cases u <;> first
       | exact wpAny_pure hQ
       | (refine wpAny_bind (wpAny_load ho ?_)
          rw [hc, hd]
          show wpAny M A (if (["enumerate", "zip", "dict_itemiterator", "dict_reverseitemiterator", "odict_iterator", "itertools.zip_longest", "itertools.pairwise"].contains n && vs[0]? == some (rawInt _)) = true then _ else _) Q E s
          rw [if_neg (by intro h; rw [hn, Bool.false_and] at h; cases h)]
          exact wpAny_pure hQ))
def Itl (K : PySem.W.Frag) (a : Addr) : It :=
 ⟨fun i H => ∃ xs x, SqL K H a xs ∧ xs[i]? = some x, fun i H x H' => H' = H ∧ ∀ xs, SqL K H a xs → xs[i]? = some x, fun i H => ∃ xs, SqL K H a xs ∧ xs.length ≤ i⟩
def Itt (K : PySem.W.Frag) (a : Addr) : It :=
 ⟨fun i H => ∃ xs x, SqT K H a xs ∧ xs[i]? = some x, fun i H x H' => H' = H ∧ ∀ xs, SqT K H a xs → xs[i]? = some x, fun i H => ∃ xs, SqT K H a xs ∧ xs.length ≤ i⟩
def Itr (lo : Int) (n : Nat) : It := ⟨fun i _ => i < n, fun i H x H' => H' = H ∧ x = .int (lo + i), fun i _ => n ≤ i⟩
theorem mR {P : Program} {w : World} {K : PySem.W.Frag} {tg : Expr} (a it : Addr) : Turn P w K tg (Itl K a) [it] it (fun i h => h.IsListIter it a i) where
 mem := by simp
 obj := fun i h st b hb => by
  have e : b = it := by simpa using hb
  subst e
  obtain ⟨o, e, c, d⟩ := st
  exact ⟨o, e, fun v z => by rw [d] at z; cases z⟩
 keep := fun i h h' st k => st.at fun o e => k it (by simp) o e
 item := by
  intro X hP hw hK hc i pins s σ H E I hf st hg
  subst hP hw hK
  obtain ⟨xs, x, hq, hx⟩ := hg
  obtain ⟨its, rv, p, hz⟩ := I.list hq
  obtain ⟨u, hu, ru⟩ := rv.get hx
  obtain ⟨f0, f1, f2, f3, f4, f5⟩ := hf it (by simp)
  refine wpAny_pyNext_list_item st p.isList (x := u) (by simpa using hu) fun h' st' sb => ?_
  have I1 : Inv X pins σ H { s with heap := h' } := I.turned (t' := s.toks) (fun b o hb e => (sb.2 b hb).trans e) f0 f1 f3 f4 f5
  obtain ⟨o, e, c, d⟩ := id st'
  exact ⟨u, rfl, oH (s := { s with heap := h' }) e c d (by decide) ⟨x, H, I1, ru, ⟨rfl, fun ys hy => by rw [I.list_inj hy hq]; exact hx⟩, st', fun b hb => (hf b hb).1⟩⟩
 done := by
  intro X hP hw hK hc i pins s σ H E I hf st hg
  subst hP hw hK
  obtain ⟨xs, hq, hx⟩ := hg
  obtain ⟨its, rv, p, hz⟩ := I.list hq
  obtain ⟨f0, f1, f2, f3, f4, f5⟩ := hf it (by simp)
  have hl := rv.length
  exact wpAny_pyNext_list_end (I.ok.hd hc) st p.isList (by simp; omega) fun h' eb => ⟨rfl, I.turned (t' := s.toks) (fun b o hb e => eb b o hb e) f0 f1 f3 f4 f5⟩
 self := fun _ _ _ _ _ st h => wpAny_pyIter_listiter st h
theorem kF {P : Program} {w : World} {K : PySem.W.Frag} {tg : Expr} (a it : Addr) : Turn P w K tg (Itt K a) [it] it (fun i h => h.IsTupleIter it a i) where
 mem := by simp
 obj := fun i h st b hb => by
  have e : b = it := by simpa using hb
  subst e
  obtain ⟨o, e, c, d⟩ := st
  exact ⟨o, e, fun v z => by rw [d] at z; cases z⟩
 keep := fun i h h' st k => st.at fun o e => k it (by simp) o e
 item := by
  intro X hP hw hK hc i pins s σ H E I hf st hg
  subst hP hw hK
  obtain ⟨xs, x, hq, hx⟩ := hg
  obtain ⟨its, rv, p, hz⟩ := I.tuple hq
  obtain ⟨u, hu, ru⟩ := rv.get hx
  obtain ⟨f0, f1, f2, f3, f4, f5⟩ := hf it (by simp)
  refine wpAny_pyNext_tuple_item st (show s.heap.IsTuple a its.toArray from p) (x := u) (by simpa using hu) fun h' st' sb => ?_
  have I1 : Inv X pins σ H { s with heap := h' } := I.turned (t' := s.toks) (fun b o hb e => (sb.2 b hb).trans e) f0 f1 f3 f4 f5
  obtain ⟨o, e, c, d⟩ := id st'
  exact ⟨u, rfl, oH (s := { s with heap := h' }) e c d (by decide) ⟨x, H, I1, ru, ⟨rfl, fun ys hy => by rw [I.tuple_inj hy hq]; exact hx⟩, st', fun b hb => (hf b hb).1⟩⟩
 done := by
  intro X hP hw hK hc i pins s σ H E I hf st hg
  subst hP hw hK
  obtain ⟨xs, hq, hx⟩ := hg
  obtain ⟨its, rv, p, hz⟩ := I.tuple hq
  obtain ⟨f0, f1, f2, f3, f4, f5⟩ := hf it (by simp)
  have hl := rv.length
  exact wpAny_pyNext_tuple_end (I.ok.hd hc) st (show s.heap.IsTuple a its.toArray from p) (by simp; omega) fun h' eb => ⟨rfl, I.turned (t' := s.toks) (fun b o hb e => eb b o hb e) f0 f1 f3 f4 f5⟩
 self := fun _ _ _ _ _ st h => wpAny_pyIter_tupleiter st h
theorem kG {P : Program} {w : World} {K : PySem.W.Frag} {tg : Expr} (it : Addr) (lo : Int) (n : Nat) : Turn P w K tg (Itr lo n) [it] it (fun i h => IsRangeIter h it (lo + (i : Nat) * 1) ((n : Int) - (i : Nat)) 1) where
 mem := by simp
 obj := fun i h st b hb => by
  have e : b = it := by simpa using hb
  subst e
  exact ⟨_, st, fun v z => by
   have z' : Data.fields _ = Data.cell v := z
   cases z'⟩
 keep := fun i h h' st k => k it (by simp) _ st
 item := by
  intro X hP hw hK hc i pins s σ H E I hf st hg
  subst hP hw hK
  obtain ⟨f0, f1, f2, f3, f4, f5⟩ := hf it (by simp)
  have W := Walks.range (prog := X.prog) (w := X.w) (I.ok.hd hc) it lo 1 n
  refine W.item i s _ _ hg st fun v h' tk hv st' kk => ?_
  obtain ⟨t, rfl⟩ := hv
  have I1 : Inv X pins σ H { s with heap := h', toks := tk } := I.turned (fun b o hb e => kk b o (by simpa using hb) e) f0 f1 f3 f4 f5
  refine ⟨_, rfl, oH (s := { s with heap := h', toks := tk }) (n := "range_iterator") st' rfl rfl (by decide) ⟨.int (lo + i), H, I1, ⟨t, ?_⟩, ⟨rfl, rfl⟩, st', fun b hb => (hf b hb).1⟩⟩
  rw [Int.mul_one]
 done := by
  intro X hP hw hK hc i pins s σ H E I hf st hg
  subst hP hw hK
  obtain ⟨f0, f1, f2, f3, f4, f5⟩ := hf it (by simp)
  exact wpAny_pyNext_range_end (I.ok.hd hc) st (by have : n ≤ i := hg; omega) fun h' eb => ⟨rfl, I.turned (t' := s.toks) (fun b o hb e => eb b o hb e) f0 f1 f3 f4 f5⟩
 self := fun _ _ _ _ _ st h => wpAny_pyIter_rangeiter st h
end L2
namespace L2
open PySem PySem.Spec PyProof.Rows
section
variable {X : Cx} {tg : Expr}
def iList (K : PySem.W.Frag) (tl : TE) : TI := fun σ H R => tl σ H fun x H1 => ∃ a, x = .ref a ∧ (∃ xs, SqL K H1 a xs) ∧ R (Itl K a) H1
def iTup (K : PySem.W.Frag) (tl : TE) : TI := fun σ H R => tl σ H fun x H1 => ∃ a, x = .ref a ∧ (∃ xs, SqT K H1 a xs) ∧ R (Itt K a) H1
theorem pi_list {l : Expr} {tl : TE} (hl : PE X l tl) : PI X tg l (iList X.K tl) := by
 intro pins s σ H R I h
 refine thn (hl pins s σ H _ I h) fun v s1 ⟨x, H1, I1, r1, q1⟩ => ?_
 obtain ⟨a, e, ⟨xs, hq⟩, q⟩ := q1
 subst e
 cases r1
 obtain ⟨its, rv, p, hz⟩ := I1.list hq
 refine wpAny_pyIter_list p.isList ?_
 refine ⟨s1.heap.objs.size, [s1.heap.objs.size], _, _, H1, rfl, I1.kept (t' := s1.toks) fun b o e => Heap.get?_push_of_some _ e, mR a _, ⟨_, Heap.get?_push_size _ rfl, rfl, rfl⟩, fun b hb => ?_, q⟩
 have e : b = s1.heap.objs.size := by simpa using hb
 subst e
 exact I1.fpOk (Nat.le_refl _) (I1.hok.fresh (Nat.le_refl _))
theorem pi_tup {l : Expr} {tl : TE} (hl : PE X l tl) : PI X tg l (iTup X.K tl) := by
 intro pins s σ H R I h
 refine thn (hl pins s σ H _ I h) fun v s1 ⟨x, H1, I1, r1, q1⟩ => ?_
 obtain ⟨a, e, ⟨xs, hq⟩, q⟩ := q1
 subst e
 cases r1
 obtain ⟨its, rv, p, hz⟩ := I1.tuple hq
 refine wpAny_pyIter_tuple (show s1.heap.IsTuple a its.toArray from p) ?_
 refine ⟨s1.heap.objs.size, [s1.heap.objs.size], _, _, H1, rfl, I1.kept (t' := s1.toks) fun b o e => Heap.get?_push_of_some _ e, kF a _, ⟨_, Heap.get?_push_size _ rfl, rfl, rfl⟩, fun b hb => ?_, q⟩
 have e : b = s1.heap.objs.size := by simpa using hb
 subst e
 exact I1.fpOk (Nat.le_refl _) (I1.hok.fresh (Nat.le_refl _))
theorem oI {pins : List (Addr × Obj)} {σ : St} {H : Hp} {s : Shared} {R : It → Hp → Prop} {E : Value → Shared → Prop} {lo hi : Int} {t u v : Tok} {tk : Nat} (I : Inv X pins σ H s) (h1 : -(2 ^ 62) ≤ lo) (h2 : lo < 2 ^ 62) (h3 : -(2 ^ 62) ≤ hi) (h4 : hi < 2 ^ 62)
  (q : R (Itr lo (hi - lo).toNat) H) : wpAny (model X.prog X.w) X.A (pyIter (.ref s.heap.objs.size)) (PIE X pins σ tg R) E { s with heap := s.heap.push { cls := .type "range", data := .fields #[.int lo t, .int hi u, .int 1 v] }, toks := tk } := by
 refine wpAny_pyIter_range (IsRange.new ..) (small_one h1 h2 h3 h4) ?_
 have I1 : Inv X pins σ H { s with heap := s.heap.push { cls := .type "range", data := .fields #[.int lo t, .int hi u, .int 1 v] }, toks := tk } := I.kept fun b o e => Heap.get?_push_of_some _ e
 refine ⟨(s.heap.push { cls := .type "range", data := .fields #[.int lo t, .int hi u, .int 1 v] }).objs.size, [(s.heap.push { cls := .type "range", data := .fields #[.int lo t, .int hi u, .int 1 v] }).objs.size], _, _, H, rfl,
  I1.kept (t' := tk) fun b o e => Heap.get?_push_of_some _ e, kG _ lo (hi - lo).toNat, ?_, fun b hb => ?_, q⟩
 ·have e1 : lo + ((0 : Nat) : Int) * 1 = lo := by simp
  have e2 : (((hi - lo).toNat : Nat) : Int) - ((0 : Nat) : Int) = Builtin.Range.rangeSize lo hi 1 := by rw [rangeSize_one]; split <;> omega
  show IsRangeIter _ _ (lo + ((0 : Nat) : Int) * 1) ((((hi - lo).toNat : Nat) : Int) - ((0 : Nat) : Int)) 1
  rw [e1, e2]
  exact Heap.get?_push_size _ rfl
 ·have e : b = (s.heap.push { cls := .type "range", data := .fields #[.int lo t, .int hi u, .int 1 v] }).objs.size := by simpa using hb
  subst e
  exact I1.fpOk (Nat.le_refl _) (I1.hok.fresh (Nat.le_refl _))
def iRng1 (ta : TA) : TI := fun σ H R => ta σ H fun vs H1 => ∃ j : Int, vs = [.int j] ∧ -(2 ^ 62) ≤ j ∧ j < 2 ^ 62 ∧ R (Itr 0 j.toNat) H1
theorem mS {a : Expr} {ta : TA} {p pos : Pos} (hg : Gl X "range") (hm : X.mg "range" = none) (ha : PA X [a] ta) (hs : starEach [a] X.env = [(false, eval a X.env)] := by rfl) : PI X tg (.Call (.Name "range" p) [a] [] pos) (iRng1 ta) := by
 intro pins s σ H R I h
 refine Call_ (iG I hg hm boot_range (PyProof.Rows.callWith_type1 (thn (ha pos pins s σ H _ I h) fun us s1 ⟨vs, H1, I1, r1, q1⟩ => ?_) hs rfl))
 obtain ⟨j, e, q1, q2, q⟩ := q1
 subst e
 cases r1 with
 | cons r rr =>
  cases rr
  obtain ⟨t, rfl⟩ := r
  exact call_range_1 (oI I1 (by omega) (by omega) q1 q2 (by simpa using q))
def tFor (wi : TI) (g : TG) (tb : TS) : TS := fun D σ H => wi σ H fun J H1 => ∃ W : Nat → Nat → St → Hp → Prop, (∃ m, W 0 m σ H1) ∧ ∀ i m σ H, W i m σ H →
 (J.stop i H ∧ D.nx σ H) ∨ (J.go i H ∧ ∃ N : St → Hp → Prop, (∀ σ' H', N σ' H' → ∃ m', m' < m ∧ W (i + 1) m' σ' H') ∧ ∀ x H', J.yld i H x H' → g x σ H' fun σ2 H2 => tb { D with nx := N, ct := N, bk := D.nx } σ2 H2)
def pinsAt (fp : List Addr) (h : Heap) : List (Addr × Obj) := fp.filterMap fun b => (h.get? b).map fun o => (b, o)
theorem bK {fp : List Addr} {h : Heap} {b : Addr} {o : Obj} (hb : b ∈ fp) (e : h.get? b = some o) : (b, o) ∈ pinsAt fp h := List.mem_filterMap.mpr ⟨b, hb, by rw [e]; rfl⟩
theorem mT {fp : List Addr} {h : Heap} {p : Addr × Obj} (hp : p ∈ pinsAt fp h) : p.1 ∈ fp ∧ h.get? p.1 = some p.2 := by
 obtain ⟨b, hb, e⟩ := List.mem_filterMap.mp hp
 cases q : h.get? b with
 | none => rw [q] at e; cases e
 | some o =>
  rw [q] at e
  have e' : (b, o) = p := Option.some.inj e
  subst e'
  exact ⟨hb, q⟩
theorem Inv.pinned {pins : List (Addr × Obj)} {σ : St} {H : Hp} {s : Shared} {fp : List Addr} (I : Inv X pins σ H s) (hf : ∀ b ∈ fp, FpOk X pins H b) (ho : ∀ b ∈ fp, ∃ o, s.heap.get? b = some o ∧ ∀ v, o.data ≠ .cell v) : Inv X (pins ++ pinsAt fp s.heap) σ H s :=
 I.pins_of fun p hp => (List.mem_append.mp hp).elim (fun z => I.pin p (List.mem_append_right _ z)) fun z => by
  obtain ⟨hb, e⟩ := mT z
  obtain ⟨f0, f1, f2, _⟩ := hf p.1 hb
  obtain ⟨o, e', d⟩ := ho p.1 hb
  rw [e] at e'; cases e'
  exact ⟨e, f0, f1, f2, d⟩
theorem Inv.unpinned {pins pl : List (Addr × Obj)} {σ : St} {H : Hp} {s : Shared} (I : Inv X (pins ++ pl) σ H s) : Inv X pins σ H s := I.pins_of fun p hp => I.pin p (List.mem_append_right _ (List.mem_append_left _ hp))
theorem ps_for {iter : Expr} {body : List Stmt} {wi : TI} {g : TG} {tb : TS} {pos : Pos} (hp : PassesOwn (model X.prog X.w) X.A X.env X.xe) (hc : X.calm = true) (hi : PI X tg iter wi) (hg : PG X tg g) (hb : PSs X body tb)
  (hs : ∀ x, foldedSetIterable iter X.env x = pure x := by intro _; rfl) : PS X (.For tg iter body [] pos) (tFor wi g tb) := by
 intro pins s σ H D I h
 refine wpAny_For (thn (hi pins s σ H _ I h) fun v s1 h1 => thn h1 fun itv s2 h2 => ?_) hs
 obtain ⟨it, fp, tn, J, H2, e, I2, T, st2, f2, W, ⟨m0, w0⟩, turn⟩ := h2
 subst e
 -- what stays true of the iterator's objects through the loop
 have stat : ∀ {H' : Hp}, (∀ b ∈ fp, H' b = none) → ∀ b ∈ fp, FpOk X pins H' b := fun hn b hb => ⟨hn b hb, (f2 b hb).2⟩
 refine codeAny_forLoop_any (fun n s' => ∃ i σ' H', Inv X pins σ' H' s' ∧ tn i s'.heap ∧ (∀ b ∈ fp, H' b = none) ∧ W i n σ' H') ?_ m0 ⟨0, σ, H2, I2, st2, fun b hb => (f2 b hb).1, w0⟩
 rintro n s3 ⟨i, σ3, H3, I3, st3, fr3, w3⟩
 rcases turn i n σ3 H3 w3 with ⟨stop, qn⟩ | ⟨go, N, hN, step⟩
 ·refine wpAny_passesOwn hp (thn (T.done X rfl rfl rfl hc i pins s3 σ3 H3 X.xe I3 (stat fr3) st3 stop) fun r s4 ⟨hr, I4⟩ => ?_)
  subst hr
  exact wpAny_execs_nil ⟨σ3, H3, I4, qn⟩
 ·refine wpAny_passesOwn hp (thn (T.item X rfl rfl rfl hc i pins s3 σ3 H3 X.xe I3 (stat fr3) st3 go) fun r s4 ⟨u, hr, h4⟩ => ?_)
  subst hr
  refine wpAny_passesOwn hp (thn h4 fun _ s5 ⟨x, H5, I5, r5, y5, st5, fr5⟩ => ?_)
  have I5' := I5.pinned (stat fr5) (T.obj _ _ st5)
  refine wpAny_passesOwn hp (thn (hg _ s5 σ3 H5 x u _ I5' r5 (step x H5 y5)) fun _ s6 ⟨σ6, H6, I6, q6⟩ => ?_)
  refine wpAny_passesOwn hp (thn (hb _ s6 σ6 H6 _ I6 q6) fun f s7 q7 => ?_)
  have again : ∀ {σ7 : St} {H7 : Hp}, Inv X (pins ++ pinsAt fp s5.heap) σ7 H7 s7 → N σ7 H7 → ∃ m, m < n ∧ ∃ i σ' H', Inv X pins σ' H' s7 ∧ tn i s7.heap ∧ (∀ b ∈ fp, H' b = none) ∧ W i m σ' H' := fun {σ7 H7} I7 n7 => by
   obtain ⟨m', hm, w7⟩ := hN σ7 H7 n7
   refine ⟨m', hm, i + 1, σ7, H7, I7.unpinned, T.keep _ _ _ st5 fun b hb o e => (I7.pin (b, o) (List.mem_append_right _ (List.mem_append_right _ (bK hb e)))).1, fun b hb => ?_, w7⟩
   obtain ⟨o, e, d⟩ := T.obj _ _ st5 b hb
   exact (I7.pin (b, o) (List.mem_append_right _ (List.mem_append_right _ (bK hb e)))).2.1
  cases f with
  | next => obtain ⟨σ7, H7, I7, n7⟩ := q7; exact again I7 n7
  | cont => obtain ⟨σ7, H7, I7, n7⟩ := q7; exact again I7 n7
  | brk => obtain ⟨σ7, H7, I7, q7⟩ := q7; exact ⟨σ7, H7, I7.unpinned, q7⟩
  | ret v => obtain ⟨x7, σ7, H7, I7, r7, q7⟩ := q7; exact ⟨x7, σ7, H7, I7.unpinned, r7, q7⟩
end
end L2
namespace L2
open PySem PySem.Spec PyProof.Rows
abbrev R2 := V → V → Hp → VK → Prop
def OpR (X : Cx) (f : Value → Value → Sem Value) (r : R2) : Prop :=
 ∀ (pins : List (Addr × Obj)) (s : Shared) (σ : St) (H : Hp) (x y : V) (v u : Value) (Q : VK), Inv X pins σ H s → RelV x v → RelV y u → r x y H Q →
  wpAny (model X.prog X.w) X.A (f v u) (EP X pins σ Q) X.xe s
def UnR (X : Cx) (f : Value → Sem Value) (r : V → Hp → VK → Prop) : Prop :=
 ∀ (pins : List (Addr × Obj)) (s : Shared) (σ : St) (H : Hp) (x : V) (v : Value) (Q : VK), Inv X pins σ H s → RelV x v → r x H Q →
  wpAny (model X.prog X.w) X.A (f v) (EP X pins σ Q) X.xe s
def CallR (X : Cx) (f : Value) (r : List V → Hp → VK → Prop) : Prop :=
 ∀ (pins : List (Addr × Obj)) (s : Shared) (σ : St) (H : Hp) (xs : List V) (us : List Value) (Q : VK), Inv X pins σ H s → Vals xs us → r xs H Q →
  wpAny (model X.prog X.w) X.A (call f us) (EP X pins σ Q) X.xe s
def TruR (X : Cx) (r : V → Hp → (Bool → Hp → Prop) → Prop) : Prop :=
 ∀ (pins : List (Addr × Obj)) (s : Shared) (σ : St) (H : Hp) (x : V) (v : Value) (Q : Bool → Hp → Prop), Inv X pins σ H s → RelV x v → r x H Q →
  wpAny (model X.prog X.w) X.A (truthy v) (TP X pins σ Q) X.xe s
def tOp (r : R2) (ta tb : TE) : TE := fun σ H Q => ta σ H fun x H1 => tb σ H1 fun y H2 => r x y H2 Q
def tUn (r : V → Hp → VK → Prop) (ta : TE) : TE := fun σ H Q => ta σ H fun x H1 => r x H1 Q
def rI (C : Int → Int → Prop) (g : Int → Int → V) : R2 := fun x y H Q => ∃ i j, x = .int i ∧ y = .int j ∧ C i j ∧ Q (g i j) H
def rI0 (g : Int → Int → V) : R2 := fun x y H Q => ∃ i j, x = .int i ∧ y = .int j ∧ Q (g i j) H
def rU (g : Int → V) : V → Hp → VK → Prop := fun x H Q => ∃ i, x = .int i ∧ Q (g i) H
section
variable {X : Cx} {a b c : Expr} {ta tb tc : TE} {pos : Pos}
theorem binT (ha : PE X a ta) (hb : PE X b tb) {pins : List (Addr × Obj)} {s : Shared} {σ : St} {H : Hp} {R : V → V → Hp → Prop} (I : Inv X pins σ H s)
  (h : ta σ H fun x H1 => tb σ H1 fun y H2 => R x y H2) {Q : Value → Shared → Prop} {f : Value → Value → Sem Value}
  (hf : ∀ v u s2 x y H2, Inv X pins σ H2 s2 → RelV x v → RelV y u → R x y H2 → wpAny (model X.prog X.w) X.A (f v u) Q X.xe s2) :
  wpAny (model X.prog X.w) X.A (eval a X.env) (fun v s₁ => wpAny (model X.prog X.w) X.A (eval b X.env) (fun u s₂ => wpAny (model X.prog X.w) X.A (f v u) Q X.xe s₂) X.xe s₁) X.xe s := by
 refine thn (ha pins s σ H _ I h) fun v s1 ⟨x, H1, I1, r1, q1⟩ => ?_
 refine thn (hb pins s1 σ H1 _ I1 q1) fun u s2 ⟨y, H2, I2, r2, q2⟩ => ?_
 exact hf v u s2 x y H2 I2 r1 r2 q2
theorem pe_op {op : Operator} {r : R2} (ho : OpR X (binaryOp op) r) (ha : PE X a ta) (hb : PE X b tb) : PE X (.BinOp a op b pos) (tOp r ta tb) := by
 intro pins s σ H Q I h
 exact wpAny_BinOp (binT ha hb I h fun v u s2 x y H2 I2 rx ry q => ho pins s2 σ H2 x y v u Q I2 rx ry q)
theorem pe_un {op : UnaryOp} {r : V → Hp → VK → Prop} (ho : UnR X (unaryOp op) r) (ha : PE X a ta) : PE X (.UnaryOp op a pos) (tUn r ta) := by
 intro pins s σ H Q I h
 exact UnaryOp_ (thn (ha pins s σ H _ I h) fun v s1 ⟨x, H1, I1, r1, q1⟩ => ho pins s1 σ H1 x v Q I1 r1 q1)
theorem opI {f : Value → Value → Sem Value} {C : Int → Int → Prop} {g : Int → Int → Int}
  (rule : ∀ (i j : Int) (t u : Tok) (s : Shared) (Q : Value → Shared → Prop) (E : Value → Shared → Prop), C i j → Q (.int (g i j) s.toks) { s with toks := s.toks + 1 } → wpAny (model X.prog X.w) X.A (f (.int i t) (.int j u)) Q E s) :
  OpR X f (rI C fun i j => .int (g i j)) := by
 intro pins s σ H x y v u Q I rx ry h
 obtain ⟨i, j, rfl, rfl, hc, q⟩ := h
 obtain ⟨t, rfl⟩ := rx
 obtain ⟨t', rfl⟩ := ry
 exact rule i j t t' s _ _ hc ⟨.int (g i j), H, I.tok _, ⟨_, rfl⟩, q⟩
theorem opI0 {f : Value → Value → Sem Value} {g : Int → Int → Int}
  (rule : ∀ (i j : Int) (t u : Tok) (s : Shared) (Q : Value → Shared → Prop) (E : Value → Shared → Prop), Q (.int (g i j) s.toks) { s with toks := s.toks + 1 } → wpAny (model X.prog X.w) X.A (f (.int i t) (.int j u)) Q E s) :
  OpR X f (rI0 fun i j => .int (g i j)) := by
 intro pins s σ H x y v u Q I rx ry h
 obtain ⟨i, j, rfl, rfl, q⟩ := h
 obtain ⟨t, rfl⟩ := rx
 obtain ⟨t', rfl⟩ := ry
 exact rule i j t t' s _ _ ⟨.int (g i j), H, I.tok _, ⟨_, rfl⟩, q⟩
theorem opB0 {f : Value → Value → Sem Value} {g : Int → Int → Bool}
  (rule : ∀ (i j : Int) (t u : Tok) (s : Shared) (Q : Value → Shared → Prop) (E : Value → Shared → Prop), Q (.bool (g i j)) s → wpAny (model X.prog X.w) X.A (f (.int i t) (.int j u)) Q E s) :
  OpR X f (rI0 fun i j => .bl (g i j)) := by
 intro pins s σ H x y v u Q I rx ry h
 obtain ⟨i, j, rfl, rfl, q⟩ := h
 obtain ⟨t, rfl⟩ := rx
 obtain ⟨t', rfl⟩ := ry
 exact rule i j t t' s _ _ ⟨.bl (g i j), H, I, rfl, q⟩
def CDiv (i j : Int) : Prop := 0 < j ∧ j < 1073741824
def CPow (i j : Int) : Prop := 0 ≤ j ∧ j ≤ 1000000 ∧ i.natAbs < 2 ^ 64
def CMul (i j : Int) : Prop := (-(2 ^ 64) < i ∧ i < 2 ^ 64) ∨ (-(2 ^ 64) < j ∧ j < 2 ^ 64)
theorem CMul.ok {i j : Int} (h : CMul i j) : IntMulOk i j := by
 rcases h with ⟨h1, h2⟩ | ⟨h1, h2⟩
 ·exact .of_left (intBits_le_64 h1 h2)
 ·exact .of_right (intBits_le_64 h1 h2)
theorem op_add : OpR X (binaryOp .Add) (rI0 fun i j => .int (i + j)) := opI0 fun _ _ _ _ _ _ _ q => add_int q
theorem op_sub : OpR X (binaryOp .Sub) (rI0 fun i j => .int (i - j)) := opI0 fun _ _ _ _ _ _ _ q => sub_int q
theorem op_mul : OpR X (binaryOp .Mult) (rI CMul fun i j => .int (i * j)) := opI fun _ _ _ _ _ _ _ hc q => mul_int q hc.ok
theorem op_fdiv : OpR X (binaryOp .FloorDiv) (rI CDiv fun i j => .int (i / j)) := opI fun i j _ _ _ _ _ hc q => by
 have h1 : (0 : Int) < j := hc.1
 have h2 : j < 1073741824 := hc.2
 exact floordiv_int (by omega) (by rw [Int.fdiv_eq_ediv_of_nonneg i (by omega)]; exact q) (.inl (PyProof.noPylong_small (by omega)))
theorem op_mod : OpR X (binaryOp .Mod) (rI (fun _ j => 0 < j) fun i j => .int (i % j)) := opI fun i j _ _ _ _ _ hc q => by
 have h1 : (0 : Int) < j := hc
 exact mod_int' (by omega) (by rw [Int.fmod_eq_emod_of_nonneg i (by omega)]; exact q)
theorem op_pow : OpR X (binaryOp .Pow) (rI CPow fun i j => .int (i ^ j.toNat)) := opI fun _ _ _ _ _ _ _ hc q => pow_int_small hc.1 hc.2.1 hc.2.2 q
theorem unI {f : Value → Sem Value} {g : Int → Int}
  (rule : ∀ (i : Int) (t : Tok) (s : Shared) (Q : Value → Shared → Prop) (E : Value → Shared → Prop), Q (.int (g i) s.toks) { s with toks := s.toks + 1 } → wpAny (model X.prog X.w) X.A (f (.int i t)) Q E s) :
  UnR X f (rU fun i => .int (g i)) := by
 intro pins s σ H x v Q I rx h
 obtain ⟨i, rfl, q⟩ := h
 obtain ⟨t, rfl⟩ := rx
 exact rule i t s _ _ ⟨.int (g i), H, I.tok _, ⟨_, rfl⟩, q⟩
theorem un_neg : UnR X (unaryOp .USub) (rU fun i => .int (-i)) := unI fun _ _ _ _ _ q => neg_int q
end
def scal : V → V → Bool
 | .non, .non => true | .non, .int _ => true | .int _, .non => true | .non, .bl _ => true | .bl _, .non => true | .non, .str _ => true | .str _, .non => true
 | .int _, .int _ => true | .bl _, .bl _ => true | .str _, .str _ => true | .byt _, .byt _ => true
 | .int _, .str _ => true | .str _, .int _ => true | .bl _, .str _ => true | .str _, .bl _ => true
 | _, _ => false
def rEq : R2 := fun x y H Q => scal x y = true ∧ Q (.bl (decide (x = y))) H
def rNe : R2 := fun x y H Q => scal x y = true ∧ Q (.bl (!decide (x = y))) H
theorem eW {i j : Int} : decide (V.int i = V.int j) = (i == j) := by
 rw [Bool.eq_iff_iff]
 simp
theorem iH {i j : Bool} : decide (V.bl i = V.bl j) = (i == j) := by
 rw [Bool.eq_iff_iff]
 simp
theorem eX {i j : Str} : decide (V.str i = V.str j) = (i == j) := by
 rw [Bool.eq_iff_iff]
 simp
theorem lR {i j : Array UInt8} : decide (V.byt i = V.byt j) = (i.toList == j.toList) := by
 rw [Bool.eq_iff_iff]
 cases i
 cases j
 simp
section
variable {X : Cx} {a b c : Expr} {ta tb tc : TE} {pos : Pos}
theorem aQ {pins : List (Addr × Obj)} {σ : St} {H : Hp} {s : Shared} {Q : VK} {k k' : Bool} (I : Inv X pins σ H s) (q : Q (.bl k) H) (e : k = k') : EP X pins σ Q (.bool k') s := by
 subst e
 exact ⟨.bl k, H, I, rfl, q⟩
theorem oJ : OpR X (compareOp .Eq) rEq := by
 intro pins s σ H x y v u Q I rx ry h
 obtain ⟨hs, q⟩ := h
 cases x with
 | non =>
  cases rx
  cases y with
  | non => cases ry; exact PySem.EqNone.eq_none_none (aQ I q (by simp))
  | bl j => cases ry; exact PySem.EqNone.eq_none_bool (aQ I q (by simp))
  | int j => obtain ⟨t', rfl⟩ := ry; exact PySem.EqNone.eq_none_int (aQ I q (by simp))
  | str j => obtain ⟨t', rfl⟩ := ry; exact PySem.EqNone.eq_none_str (aQ I q (by simp))
  | _ => exact absurd (show false = true from hs) Bool.false_ne_true
 | bl i =>
  cases rx
  cases y with
  | non => cases ry; exact PySem.EqNone.eq_bool_none (aQ I q (by simp))
  | bl j => cases ry; exact eq_bool (aQ I q iH)
  | str j => obtain ⟨t', rfl⟩ := ry; exact PySem.EqMixed.eq_bool_str (aQ I q (by simp))
  | _ => exact absurd (show false = true from hs) Bool.false_ne_true
 | int i =>
  obtain ⟨t, rfl⟩ := rx
  cases y with
  | non => cases ry; exact PySem.EqNone.eq_int_none (aQ I q (by simp))
  | int j => obtain ⟨t', rfl⟩ := ry; exact eq_int (aQ I q eW)
  | str j => obtain ⟨t', rfl⟩ := ry; exact PySem.EqMixed.eq_int_str (aQ I q (by simp))
  | _ => exact absurd (show false = true from hs) Bool.false_ne_true
 | str i =>
  obtain ⟨t, rfl⟩ := rx
  cases y with
  | non => cases ry; exact PySem.EqNone.eq_str_none (aQ I q (by simp))
  | bl j => cases ry; exact PySem.EqMixed.eq_str_bool (aQ I q (by simp))
  | int j => obtain ⟨t', rfl⟩ := ry; exact PySem.EqMixed.eq_str_int (aQ I q (by simp))
  | str j => obtain ⟨t', rfl⟩ := ry; exact eq_str (aQ I q eX)
  | _ => exact absurd (show false = true from hs) Bool.false_ne_true
 | byt i =>
  obtain ⟨t, rfl⟩ := rx
  cases y with
  | byt j => obtain ⟨t', rfl⟩ := ry; exact PySem.W.eq_bytes (aQ I q lR)
  | _ => exact absurd (show false = true from hs) Bool.false_ne_true
 | _ => cases y <;> exact absurd (show false = true from hs) Bool.false_ne_true
theorem oK : OpR X (compareOp .NotEq) rNe := by
 intro pins s σ H x y v u Q I rx ry h
 obtain ⟨hs, q⟩ := h
 cases x with
 | non =>
  cases rx
  cases y with
  | non => cases ry; exact PySem.EqNone.ne_none_none (aQ I q (by simp))
  | bl j => cases ry; exact PySem.EqNone.ne_none_bool (aQ I q (by simp))
  | int j => obtain ⟨t', rfl⟩ := ry; exact PySem.EqNone.ne_none_int (aQ I q (by simp))
  | str j => obtain ⟨t', rfl⟩ := ry; exact PySem.EqNone.ne_none_str (aQ I q (by simp))
  | _ => exact absurd (show false = true from hs) Bool.false_ne_true
 | bl i =>
  cases rx
  cases y with
  | non => cases ry; exact PySem.EqNone.ne_bool_none (aQ I q (by simp))
  | bl j => cases ry; exact ne_bool (aQ I q (congrArg not iH))
  | str j => obtain ⟨t', rfl⟩ := ry; exact PySem.EqMixed.ne_bool_str (aQ I q (by simp))
  | _ => exact absurd (show false = true from hs) Bool.false_ne_true
 | int i =>
  obtain ⟨t, rfl⟩ := rx
  cases y with
  | non => cases ry; exact PySem.EqNone.ne_int_none (aQ I q (by simp))
  | int j => obtain ⟨t', rfl⟩ := ry; exact ne_int (aQ I q (congrArg not eW))
  | str j => obtain ⟨t', rfl⟩ := ry; exact PySem.EqMixed.ne_int_str (aQ I q (by simp))
  | _ => exact absurd (show false = true from hs) Bool.false_ne_true
 | str i =>
  obtain ⟨t, rfl⟩ := rx
  cases y with
  | non => cases ry; exact PySem.EqNone.ne_str_none (aQ I q (by simp))
  | bl j => cases ry; exact PySem.EqMixed.ne_str_bool (aQ I q (by simp))
  | int j => obtain ⟨t', rfl⟩ := ry; exact PySem.EqMixed.ne_str_int (aQ I q (by simp))
  | str j => obtain ⟨t', rfl⟩ := ry; exact ne_str (aQ I q (congrArg not eX))
  | _ => exact absurd (show false = true from hs) Bool.false_ne_true
 | byt i =>
  obtain ⟨t, rfl⟩ := rx
  cases y with
  | byt j => obtain ⟨t', rfl⟩ := ry; exact PySem.W.ne_bytes (aQ I q (congrArg not lR))
  | _ => exact absurd (show false = true from hs) Bool.false_ne_true
 | _ => cases y <;> exact absurd (show false = true from hs) Bool.false_ne_true
theorem op_lt : OpR X (compareOp .Lt) (rI0 fun i j => .bl (decide (i < j))) := opB0 fun _ _ _ _ _ _ _ q => lt_int q
theorem op_gt : OpR X (compareOp .Gt) (rI0 fun i j => .bl (decide (j < i))) := opB0 fun _ _ _ _ _ _ _ q => gt_int q
theorem op_ge : OpR X (compareOp .GtE) (rI0 fun i j => .bl (decide (j ≤ i))) := opB0 fun _ _ _ _ _ _ _ q => ge_int q
theorem OpR.or {f : Value → Value → Sem Value} {r r' : R2} (h : OpR X f r) (h' : OpR X f r') : OpR X f (fun x y H Q => r x y H Q ∨ r' x y H Q) := by
 intro pins s σ H x y v u Q I rx ry q
 rcases q with q | q
 ·exact h pins s σ H x y v u Q I rx ry q
 ·exact h' pins s σ H x y v u Q I rx ry q
def TruV (K : PySem.W.Frag) (x : V) (H : Hp) (k : Bool) : Prop :=
 match x with
 | .non => k = false
 | .bl b => k = b
 | .int i => k = (i != 0)
 | .str y => y.length ≤ sizeLine ∧ k = ((y.length : Int) != 0)
 | .byt y => y.size ≤ sizeLine ∧ k = ((y.size : Int) != 0)
 | .ref p => (∃ xs, SqL K H p xs ∧ k = !xs.isEmpty) ∨ (∃ xs, SqT K H p xs ∧ k = !xs.isEmpty) ∨ ∃ kvs, H p = some (.dK kvs) ∧ k = !kvs.isEmpty
 | _ => False
theorem kH {κ : Type} {kvs : List (κ × V)} {vs : List (κ × Value)} (r : KV kvs vs) : (!vs.isEmpty) = !kvs.isEmpty := by
 cases r <;> rfl
theorem fF {xs : List V} {its : List Value} (r : Vals xs its) : (!its.toArray.isEmpty) = !xs.isEmpty := by
 cases r <;> simp
theorem line63 : (sizeLine : Nat) < 2 ^ 63 := by rw [sizeLine_eq]; decide
theorem tru_ok : TruR X (fun x H Q => ∃ k, TruV X.K x H k ∧ Q k H) := by
 intro pins s σ H x v Q I rx h
 obtain ⟨k, e, q⟩ := h
 have hl := line63
 have hs : sizeLine = 16777216 := sizeLine_eq
 cases x with
 | non =>
  cases rx
  have e' : k = false := e
  subst e'
  exact truthy_none ⟨H, I, q⟩
 | bl b =>
  cases rx
  have e' : k = b := e
  subst e'
  exact wpAny_truthy_bool ⟨H, I, q⟩
 | int i =>
  obtain ⟨t, rfl⟩ := rx
  have e' : k = (i != 0) := e
  subst e'
  exact PySem.P.truthy_int ⟨H, I, q⟩
 | str y =>
  obtain ⟨t, rfl⟩ := rx
  obtain ⟨hy, e'⟩ : y.length ≤ sizeLine ∧ k = ((y.length : Int) != 0) := e
  subst e'
  exact PySem.P.truthy_str (by omega) ⟨H, I.tok _, q⟩
 | byt y =>
  obtain ⟨t, rfl⟩ := rx
  obtain ⟨hy, e'⟩ : y.size ≤ sizeLine ∧ k = ((y.size : Int) != 0) := e
  subst e'
  exact PySem.W.truthy_bytes (by omega) ⟨H, I.tok _, q⟩
 | ref p =>
  cases rx
  have e' : (∃ xs, SqL X.K H p xs ∧ k = !xs.isEmpty) ∨ (∃ xs, SqT X.K H p xs ∧ k = !xs.isEmpty) ∨ ∃ kvs, H p = some (.dK kvs) ∧ k = !kvs.isEmpty := e
  rcases e' with ⟨xs, hx, e'⟩ | ⟨xs, hx, e'⟩ | ⟨kvs, hx, e'⟩
  ·subst e'
   obtain ⟨its, r, pl, hz⟩ := I.list hx
   have hlen := r.length
   exact wpAny_truthy_list pl.isList (by simp only [List.size_toArray]; omega) ⟨H, I.tok _, by rw [fF r]; exact q⟩
  ·subst e'
   obtain ⟨its, r, pl, hz⟩ := I.tuple hx
   have hlen := r.length
   exact truthy_tuple pl (by simp only [List.size_toArray]; omega) ⟨H, I.tok _, by rw [fF r]; exact q⟩
  ·subst e'
   obtain ⟨hz, hS, vs, r, m⟩ : kvs.length ≤ sizeLine ∧ (p == sysModules) = false ∧ ∃ vs, KV kvs vs ∧ s.heap.DictOf (mixKind X.prog X.w) p vs := I.hok p _ hx
   have hlen : kvs.length = vs.length := Paired.length r
   exact wpAny_truthy_dict hS m (by omega) ⟨H, I.tok _, by rw [kH r]; exact q⟩
 | _ => exact (show False from e).elim
theorem oM (ha : PE X a ta) (he : ∀ whole, isTrue a X.env whole = (do let v ← whole; standAt a.pos; holding [v] (truthy v))) :
  PT X a (fun σ H Q => ta σ H fun x H' => ∃ k, TruV X.K x H' k ∧ Q k H') := by
 intro pins s σ H Q I h
 exact isTrue_plain (thn (ha pins s σ H _ I h) fun v s1 ⟨x, H1, I1, r1, q1⟩ => tru_ok pins s1 σ H1 x v Q I1 r1 q1) (he _)
theorem vals1 {x : V} {us : List Value} (r : Vals [x] us) : ∃ u, us = [u] ∧ RelV x u := by
 cases r with
 | cons r1 r2 => cases r2; exact ⟨_, rfl, r1⟩
theorem vals2 {x y : V} {us : List Value} (r : Vals [x, y] us) : ∃ u w', us = [u, w'] ∧ RelV x u ∧ RelV y w' := by
 cases r with
 | cons r1 r2 =>
  cases r2 with
  | cons r3 r4 => cases r4; exact ⟨_, _, rfl, r1, r3⟩
end
end L2
namespace L2
open PySem PySem.Spec PyProof.Rows
structure ObjM (h : Heap) (x dx C : Addr) (mA : Str → Option Value) : Prop where
 obj : h.get? x = some (PySem.W.instObj C dx)
 ns : h.Ns1 dx mA
 ne : dx ≠ x
section
variable {prog : Program} {w : World} {A : Around} {E : Value → Shared → Prop} {s : Shared} {K : PySem.W.Frag} {x dx C f : Addr} {mA : Str → Option Value} {name : Str} {v : Value}
end
theorem RelO.some_of {v : V} {o : Option Value} (r : RelO (some v) o) : ∃ u, o = some u ∧ RelV v u := by
 cases o with
 | none => exact (show False from r).elim
 | some u => exact ⟨u, rfl, r⟩
section
variable {P : Program} {w : World} {H H' : Hp} {h h' : Heap} {a C dx : Addr} {fs fs' : List (Str × V)}
end
structure Cls (K : PySem.W.Frag) (C : Addr) : Prop where
 pg : PySem.W.plainGet K C Str.empty = true
 hd : PySem.W.hasDictIn K C = true
 po : PySem.W.plainOver K C = true
 sa : PySem.W.findIn K (.ref C) "__setattr__" = some (some (.builtin "object.__setattr__"))
structure Con (K : PySem.W.Frag) (C : Addr) (f : Str) (v : V) (u : Value) : Prop where
 at_ : PySem.W.findIn K (.ref C) f = some (some u)
 rel : RelV v u
 get : PySem.W.specialIn K u "__get__" = some none
 cp : PySem.W.copiedNames.contains f = false
structure Meth (K : PySem.W.Frag) (C : Addr) (m : Str) (f : Addr) : Prop where
 at_ : PySem.W.findIn K (.ref C) m = some (some (.ref f))
 fn : PySem.W.isFn K (.ref f) = true
 kp : PySem.W.keepIn K (.ref f) = true
section
variable {X : Cx} {pins : List (Addr × Obj)} {σ : St} {H : Hp} {s : Shared} {a C dx : Addr} {fs : List (Str × V)} {f : Str} {v : V} {A : Around} {E : Value → Shared → Prop}
end
section
variable {X : Cx} {o e value : Expr} {f : Str} {pos pos' tpos : Pos} {ta tv : TE}
end
section
variable {X : Cx} {pins : List (Addr × Obj)} {σ : St} {H : Hp} {s : Shared} {A : Around} {E : Value → Shared → Prop} {Q : Value → Shared → Prop} {c : Value} {b : Bool}
inductive TyOf (K : PySem.W.Frag) (H : Hp) : V → Value → Prop where
 | non : TyOf K H .non (.type "NoneType")
 | bl (x : Bool) : TyOf K H (.bl x) (.type "bool")
 | int (i : Int) : TyOf K H (.int i) (.type "int")
 | str (x : Str) : TyOf K H (.str x) (.type "str")
 | flt (x : UInt64) : TyOf K H (.flt x) (.type "float")
 | lst {a : Addr} {xs : List V} (e : H a = some (.lst xs)) : TyOf K H (.ref a) (.type "list")
 | frz {a : Addr} {o : Obj} {xs : List V} (e : H a = some (.frz o (.lst xs))) : TyOf K H (.ref a) (.type "list")
 | tup {a : Addr} {xs : List V} (e : H a = some (.tup xs)) : TyOf K H (.ref a) (.type "tuple")
 | dK {a : Addr} {kvs : List (Key × V)} (e : H a = some (.dK kvs)) : TyOf K H (.ref a) (.type "dict")
 | dT {a : Addr} {kvs : List (List Key × V)} (e : H a = some (.dT kvs)) : TyOf K H (.ref a) (.type "dict")
 | ins {a C dx : Addr} {fs : List (Str × V)} (e : H a = some (.ins C dx fs)) (cl : Cls K C) (ha : PySem.W.findIn K (.ref C) "__class__" = some (some (.builtin "object.__class__")))
   (hn : PySem.W.specialIn K (.builtin "object.__class__") "__get__" = some (some (.builtin "getset_descriptor.__get__"))) (htk : PySem.W.takesIn K (.builtin "object.__class__") = some true)
   (hm : PySem.W.mroIn K C (.type "object") = some true) : TyOf K H (.ref a) (.ref C)
end
end L2
namespace L2
open PySem PySem.Spec PyProof.Rows
structure Room (k : Nat) (A : Around) : Prop where
 hd : A.handled = none
 dp : A.depth + 3 * k + 5 < recursionLimit
 un : A.units + 16 * k + 200 < cLine
theorem Room.mono {j k : Nat} {A : Around} (r : Room k A) (h : j ≤ k) : Room j A := ⟨r.hd, by have := r.dp; omega, by have := r.un; omega⟩
theorem Room.deeper {k : Nat} {A : Around} (r : Room (k + 1) A) (env : Env) : Room k (A.deeper env) :=
 ⟨r.hd, by have := r.dp; show A.depth + 1 + 3 * k + 5 < _; omega, by have := r.un; show A.units + 3 + 16 * k + 200 < _; omega⟩
theorem Room.depth {k : Nat} {A : Around} (r : Room k A) : A.depth < recursionLimit := by have := r.dp; omega
theorem Room.units {k : Nat} {A : Around} (r : Room k A) : A.units + 64 < cLine := by have := r.un; omega
def tNil : TA := fun _ H Q => Q [] H
def tCons (ta : TE) (tr : TA) : TA := fun σ H Q => ta σ H fun x H1 => tr σ H1 fun xs H2 => Q (x :: xs) H2
section
variable {X : Cx} {e : Expr} {es : List Expr} {te : TE} {t : TA} {pos : Pos}
theorem pa_nil : PA X [] tNil := fun _ _ _ _ H Q I h => Calls.spliced_nil ⟨[], H, I, .nil, h⟩
theorem pa_cons (ha : PE X e te) (hr : PA X es t) (hs : starEach (e :: es) X.env = (false, eval e X.env) :: starEach es X.env := by rfl) : PA X (e :: es) (tCons te t) := by
 intro pos pins s σ H Q I h
 rw [hs]
 show wpAny _ _ (spliced ((false, eval e X.env) :: backTo pos (starEach es X.env))) _ _ s
 refine Calls.spliced_cons (thn (ha pins s σ H _ I h) fun u s1 ⟨x, H1, I1, r1, q1⟩ => ?_)
 exact thn (hr pos pins s1 σ H1 _ I1 q1) fun us s2 ⟨xs, H2, I2, r2, q2⟩ => ⟨x :: xs, H2, I2, .cons r1 r2, q2⟩
def tTup (t : TA) : TE := fun σ H Q => t σ H fun xs H1 => xs.length ≤ sizeLine ∧ ∀ p, H1 p = none → Q (.ref p) (upd H1 p (.tup xs))
def tLst (t : TA) : TE := fun σ H Q => t σ H fun xs H1 => xs.length ≤ sizeLine ∧ ∀ p, H1 p = none → Q (.ref p) (upd H1 p (.lst xs))
theorem pe_tup {x1} (h : PA X es t) : PE X (.Tuple es x1 pos) (tTup t) := by
 intro pins s σ H Q I hq
 refine wpAny_Tuple_spliced (thn (h pos pins s σ H _ I hq) fun us s1 ⟨xs, H1, I1, r, z, q⟩ => ⟨by rw [← r.length]; exact z, ?_⟩)
 have hf : H1 s1.heap.objs.size = none := I1.hok.fresh (Nat.le_refl _)
 refine ⟨.ref s1.heap.objs.size, upd H1 s1.heap.objs.size (.tup xs), I1.laid (t' := s1.toks) (fun b u e => Heap.get?_push_of_some _ e) (Nat.le_refl _) ?_, rfl, q _ hf⟩
 exact ⟨z, us, r, ⟨_, Heap.get?_push_size _ rfl, rfl, _, rfl⟩⟩
theorem oN (h : PA X es t) : PE X (.List es pos) (tLst t) := by
 intro pins s σ H Q I hq
 refine wpAny_List_spliced (thn (h pos pins s σ H _ I hq) fun us s1 ⟨xs, H1, I1, r, z, q⟩ => ⟨by rw [← r.length]; exact z, ?_⟩)
 have hf : H1 s1.heap.objs.size = none := I1.hok.fresh (Nat.le_refl _)
 refine ⟨.ref s1.heap.objs.size, upd H1 s1.heap.objs.size (.lst xs), I1.laid (t' := s1.toks) (fun b u e => Heap.get?_push_of_some _ e) (Nat.le_refl _) ?_, rfl, q _ hf⟩
 exact ⟨z, us, 0, r, Heap.get?_push_size _ rfl⟩
end
abbrev Sp := List V → Hp → VK → XK → Prop
abbrev CXT := List Env → Hp → Shared → XK → Value → Shared → Prop
structure Env0 (P : Program) (w : World) (K : PySem.W.Frag) (mg : Str → Option Value) (base : Heap) (A : Around) (outer : List Env) (s : Shared) (H : Hp) : Prop where
 frames : A.frames = some outer
 mod : Mod K mg base
 bs : ∀ b o, base.get? b = some o → s.heap.get? b = some o ∧ H b = none
 bsz : base.objs.size ≤ s.heap.objs.size
 funs : s.heap.FunFrames base outer
 frf : ∀ b ∈ frs outer, H b = none
 hok : HOk P w H s.heap
 bare : AllBare s.gens
def CE (outer : List Env) (P : Program) (w : World) (H : Hp) (s : Shared) (Q : VK) (u : Value) (s' : Shared) : Prop :=
 ∃ v H', s'.os = s.os ∧ AllBare s'.gens ∧ Un (frs outer) [] H H' s.heap s'.heap ∧ HOk P w H' s'.heap ∧ RelV v u ∧ Q v H'
def CR (CX : CXT) (outer : List Env) (P : Program) (w : World) (H : Hp) (s : Shared) (Q : VK) (E : XK) (r : Result) (s' : Shared) : Prop :=
 match r with
 | .ok (.ret u) => CE outer P w H s Q u s'
 | .ok _ => False
 | .error e => CX outer H s E e s'
structure FnOk (P : Program) (w : World) (K : PySem.W.Frag) (mg : Str → Option Value) (base : Heap) (CX : CXT) (k : Nat) (f : Addr) (fd : FuncData) (ps : List Str) (sp : Sp) : Prop where
 len : ∀ vs H Q E, sp vs H Q E → vs.length = ps.length
 run : ∀ (A : Around) (outer : List Env) (s : Shared) (H : Hp) (args : Args) (us : List Value) (vs : List V) (Q : VK) (E : XK), Room k A → Env0 P w K mg base A outer s H → BindsTo s fd args (ps.zip us) → Vals vs us → sp vs H Q E →
  codeAny (model P w) A (.call (.ref f) args) (CR CX outer P w H s Q E) s
section
variable {X : Cx} {pins : List (Addr × Obj)} {σ : St} {H : Hp} {s s' : Shared}
theorem Inv.env0 (I : Inv X pins σ H s) : Env0 X.prog X.w X.K X.mg X.base X.A X.stack s H :=
 ⟨I.ok.frames, I.ok.mod, I.bs, Nat.le_trans I.ok.bsz I.sz, I.stack, I.stkFree, I.hok, I.bare⟩
theorem Inv.after {Q : VK} {u : Value} (I : Inv X pins σ H s) (h : CE X.stack X.prog X.w H s Q u s') : EP X pins σ Q u s' := by
 obtain ⟨v, H', os, bare, un, hok, r, q⟩ := h
 obtain ⟨hh, g, d, t, os'⟩ := s'
 obtain rfl : os' = s.os := os
 exact ⟨v, H', I.call (h' := hh) (g' := g) (d' := d) (t' := t) (ch := []) un hok bare (fun b z => absurd z (by simp)), r, q⟩
end
def Binds (K : PySem.W.Frag) (fd : FuncData) (ps : List Str) (ds : List Value) : Prop :=
 ∀ (s : Shared) (us : List Value), K.In s.heap → (us ++ ds).length = ps.length → BindsTo s fd ⟨us, []⟩ (ps.zip (us ++ ds))
theorem Binds.all {K : PySem.W.Frag} {fd : FuncData} {ps : List Str} (h : ∀ us : List Value, us.length = ps.length → bindArgs fd ⟨us, []⟩ = pure (ps.zip us)) : Binds K fd ps [] := fun s us _ hl => by
 rw [List.append_nil] at hl ⊢
 exact .of_eq (h us hl)
section
variable {X : Cx} {CX : CXT} {k : Nat} {f C : Addr} {fd : FuncData} {ps : List Str} {sp : Sp} {dvs : List V} {ds : List Value} {E : XK} {x m : Str} {p pos apos : Pos} {e o : Expr} {es : List Expr} {ta : TE} {t : TA}
structure Mk (K : PySem.W.Frag) (C f : Addr) : Prop where
 makes : PySem.W.makesIn K C = true
 init : PySem.W.findIn K (.ref C) "__init__" = some (some (.ref f))
 fn : PySem.W.isFn K (.ref f) = true
 kp : PySem.W.keepIn K (.ref C) = true
end
section
variable {X : Cx} {CX : CXT} {k : Nat} {f C : Addr} {fd : FuncData} {ps ks : List Str} {sp : Sp} {E : XK} {x m : Str} {p pos apos kpos : Pos} {e o : Expr} {es : List Expr} {kws : List Keyword} {te ta : TE} {t tk : TA} {nm : Option Str}
structure KBinds (K : PySem.W.Frag) (fd : FuncData) (ps ks : List Str) (g : List Value → List Value → List Value) (gV : List V → List V → List V) : Prop where
 to : ∀ (s : Shared) (us ws : List Value), K.In s.heap → (g us ws).length = ps.length → BindsTo s fd ⟨us, ks.zip ws⟩ (ps.zip (g us ws))
 rel : ∀ {vs : List V} {us : List Value} {zs : List V} {ws : List Value}, Vals vs us → Vals zs ws → Vals (gV vs zs) (g us ws)
variable {g : List Value → List Value → List Value} {gV : List V → List V → List V}
end
structure FnScope (N P : List Str) (sc : Scope) : Prop where
 kind : sc.kind = .function
 co : sc.isCoroutine = false
 gen : sc.isGenerator = false
 nd : N.Nodup
 pre : N.take P.length = P
 par : ∀ x ∈ P, sc.names.lookup x = some .local ∨ sc.names.lookup x = some .cell
 nofree : ∀ y ∈ sc.names, y.2 ≠ .free
theorem gU {kindOf : Str → Option NameKind} {x : Str} : ∀ {binds : List (Str × Value)} {m : Str → Option Value}, (∀ v, (x, v) ∉ binds) → bindL kindOf binds m x = m x
 | [], _, _ => rfl
 | (n, v) :: r, m, h => by
  unfold bindL
  rw [gU fun w hw => h w (List.mem_cons_of_mem _ hw)]
  split
  ·have : x ≠ n := by rintro rfl; exact h v List.mem_cons_self
   simp [this]
  ·rfl
theorem gW {kindOf : Str → Option NameKind} {x : Str} : ∀ {binds : List (Str × Value)} {m : Str → Option Value}, (∀ v, (x, v) ∉ binds) → bindC kindOf binds m x = m x
 | [], _, _ => rfl
 | (n, v) :: r, m, h => by
  unfold bindC
  rw [gW fun w hw => h w (List.mem_cons_of_mem _ hw)]
  split
  ·rfl
  ·have : x ≠ n := by rintro rfl; exact h v List.mem_cons_self
   simp [this]
theorem gX {kindOf : Str → Option NameKind} {x : Str} {v : Value} : ∀ {P : List Str} {vs : List Value} {i : Nat} {m : Str → Option Value}, P.Nodup → P[i]? = some x → vs[i]? = some v → kindOf x = some .local →
  bindL kindOf (P.zip vs) m x = some v
 | [], _, _, _, _, h, _, _ => by simp at h
 | _ :: _, [], _, _, _, _, h, _ => by simp at h
 | p :: P, w :: vs, 0, m, nd, h1, h2, hk => by
  simp at h1 h2; subst h1; subst h2
  show bindL kindOf ((p, w) :: P.zip vs) m p = _
  unfold bindL
  rw [gU fun v hv => (List.nodup_cons.mp nd).1 (List.of_mem_zip hv).1, if_pos hk]
  simp
 | p :: P, w :: vs, i + 1, m, nd, h1, h2, hk => by
  show bindL kindOf ((p, w) :: P.zip vs) m x = _
  unfold bindL
  exact gX (i := i) (List.nodup_cons.mp nd).2 (by simpa using h1) (by simpa using h2) hk
theorem gY {kindOf : Str → Option NameKind} {x : Str} {v : Value} : ∀ {P : List Str} {vs : List Value} {i : Nat} {m : Str → Option Value}, P.Nodup → P[i]? = some x → vs[i]? = some v → kindOf x ≠ some .local →
  bindC kindOf (P.zip vs) m x = some v
 | [], _, _, _, _, h, _, _ => by simp at h
 | _ :: _, [], _, _, _, _, h, _ => by simp at h
 | p :: P, w :: vs, 0, m, nd, h1, h2, hk => by
  simp at h1 h2; subst h1; subst h2
  show bindC kindOf ((p, w) :: P.zip vs) m p = _
  unfold bindC
  rw [gW fun v hv => (List.nodup_cons.mp nd).1 (List.of_mem_zip hv).1, if_neg hk]
  simp
 | p :: P, w :: vs, i + 1, m, nd, h1, h2, hk => by
  show bindC kindOf ((p, w) :: P.zip vs) m x = _
  unfold bindC
  exact gY (i := i) (List.nodup_cons.mp nd).2 (by simpa using h1) (by simpa using h2) hk
def start (N : List Str) (vs : List V) : St := vs.map some ++ List.replicate (N.length - vs.length) none
def cxOf (CX : CXT) (P : Program) (w : World) (K : PySem.W.Frag) (mg : Str → Option Value) (base : Heap) (N : List Str) (qual : Str) (scope : Scope) (f : Addr) (cd : Value) (A : Around) (outer : List Env) (s : Shared) (H : Hp) (E : XK) : Cx where
 prog := P
 w := w
 K := K
 mg := mg
 base := base
 A := A.deeper (envOfC qual scope s.heap.objs.size f cd)
 N := N
 s₀ := s
 H₀ := H
 env := envOfC qual scope s.heap.objs.size f cd
 outer := outer
 stack := envOfC qual scope s.heap.objs.size f cd :: outer
 ex := []
 calm := true
 fn := fun _ => true
 pn := []
 xe := fun e s' => wpAny (model P w) (A.deeper (envOfC qual scope s.heap.objs.size f cd)) (leaving (envOfC qual scope s.heap.objs.size f cd) e) (fun _ s'' => CX outer H s E e s'') (fun e' s'' => CX outer H s E e' s'') s'
theorem jB {sc : Scope} {n : Nat} {x : Str} (h : sc.names.lookup x = some .cell) : ∃ c, (cellsFrom n sc.names []).lookup x = some c := by
 have q := PySem.W.cellsFrom_some sc.names n [] (.inl h)
 exact Option.isSome_iff_exists.mp q
theorem mU {CX : CXT} {P : Program} {w : World} {K : PySem.W.Frag} {mg : Str → Option Value} {base : Heap} {N ps : List Str} {qual : Str} {scope : Scope} {f : Addr} {cd : Value} {A : Around} {outer : List Env} {s s1 : Shared} {H : Hp} {E : XK} {us : List Value} {vs : List V}
  (S : FnScope N ps scope) (hd : A.handled = none) (e0 : Env0 P w K mg base A outer s H) (hl : vs.length = ps.length) (r : Vals vs us)
  (x : InCallC s s.heap.objs.size (bindL (envOfC qual scope s.heap.objs.size f cd).kindOf (ps.zip us) fun _ => none) (cellsFrom (s.heap.objs.size + 1) scope.names []) (bindC (envOfC qual scope s.heap.objs.size f cd).kindOf (ps.zip us) fun _ => none) s1) :
  Inv (cxOf CX P w K mg base N qual scope f cd A outer s H E) [] (start N vs) H s1 := by
 have hpl : ps.length ≤ N.length := by have := congrArg List.length S.pre; rw [List.length_take] at this; omega
 obtain ⟨h1, tk, rfl, hk⟩ := x.done
 have noA : ∀ b : Addr, b ∉ (cxOf CX P w K mg base N qual scope f cd A outer s H E).ex := fun b z => absurd (show b ∈ ([] : List Addr) from z) (by simp)
 refine ⟨⟨e0.mod, S.kind, rfl, rfl, Nat.le_refl _, fun y z c h1 h2 => ?_, fun y hy => ?_, fun y c _ h => ?_, fun _ => hd, Around.frames_deeper e0.frames, .inr ⟨rfl, rfl⟩, fun b z => absurd z (noA b), e0.bs, e0.bsz, fun b _ _ => noA b, fun b z => absurd z (noA b), e0.funs, e0.frf⟩,
  rfl, e0.bare, Un.kept hk, ⟨_, x.toInCall.ns, fun i y v h1 h2 h3 => ?_⟩, fun y c h => ⟨_, x.cell y c h⟩, e0.hok.fresh (Nat.le_refl _), fun y c h => ?_, fun p hp => absurd (show p ∈ ([] : List (Addr × Obj)) from hp) (by simp), e0.hok.kept hk, ?_⟩
 ·exact name_of_addr x.apart (PySem.mem_of_lookup h1) (PySem.mem_of_lookup h2)
 ·have hy : scope.names.lookup y = some .cell ∨ scope.names.lookup y = some .free := hy
  rcases hy with hy | hy
  ·exact jB hy
  ·exact absurd rfl (S.nofree _ (PySem.mem_of_lookup hy))
 ·exact Nat.le_of_lt (x.above y c (PySem.mem_of_lookup h))
 ·have hi : i < vs.length := by
   unfold start at h2
   by_cases hi : i < vs.length
   ·exact hi
   ·rw [List.getElem?_append_right (by simpa using hi)] at h2
    rw [List.getElem?_replicate] at h2
    split at h2 <;> cases h2
  have ha : vs[i]? = some v := by
   unfold start at h2
   rw [List.getElem?_append_left (by simpa using hi), List.getElem?_map] at h2
   cases e : vs[i]? with
   | none => rw [e] at h2; cases h2
   | some a => rw [e] at h2; cases h2; rfl
  obtain ⟨u, hu, rv⟩ := r.get ha
  have hp : ps[i]? = some y := by
   rw [← S.pre, List.getElem?_take_of_lt (by omega)]; exact h1
  have ndP : ps.Nodup := by rw [← S.pre]; exact S.nd.sublist (List.take_sublist _ _)
  refine ⟨u, rv, ?_⟩
  rcases S.par y (List.mem_of_getElem? hp) with k | k
  ·exact .inl ⟨k, gX ndP hp hu k⟩
  ·obtain ⟨c, e⟩ := jB (n := s.heap.objs.size + 1) k
   refine .inr ⟨.inl k, c, e, ?_⟩
   have q := x.cell y c e
   rw [gY ndP hp hu (by show scope.names.lookup y ≠ _; rw [k]; decide)] at q
   exact q
 ·exact e0.hok.fresh (Nat.le_of_lt (x.above y c (PySem.mem_of_lookup h)))
 ·unfold start
  show _ = N.length
  rw [List.length_append, List.length_map, List.length_replicate]
  omega
theorem fn_of {CX : CXT} {P : Program} {w : World} {K : PySem.W.Frag} {mg : Str → Option Value} {base : Heap} {k : Nat} {f : Addr} {name qual : Str} {params : Arguments} {body : List Stmt} {scope : Scope} {dV kV doc pm cdv ct oc : Value} {an od : Option Addr}
  {osl : Array (Option Value)} {N ps : List Str} {sp : Sp} (lk : K.lookup f = some ⟨oc, od, .func (PySem.W.fnOf name qual params body scope dV kV doc pm an cdv ct), osl⟩) (hcd : PySem.W.codeIn K cdv qual = true) (S : FnScope N ps scope)
  (len : ∀ vs H Q E, sp vs H Q E → vs.length = ps.length)
  (hbody : ∀ (A : Around) (outer : List Env) (s : Shared) (H : Hp) (vs : List V) (Q : VK) (E : XK), Room k (A.deeper (envOfC qual scope s.heap.objs.size f cdv)) → sp vs H Q E →
   ∃ t, PSs (cxOf CX P w K mg base N qual scope f cdv A outer s H E) body t ∧ t { nx := fun _ H' => Q .non H', rt := Q } (start N vs) H) :
  FnOk P w K mg base CX (k + 1) f (PySem.W.fnOf name qual params body scope dV kV doc pm an cdv ct) ps sp := by
 refine ⟨len, fun A outer s H args us vs Q E hr e0 hb r hsp => ?_⟩
 have hl := len _ _ _ _ hsp
 have KX : K.In s.heap := e0.mod.kin.keeps fun b o e => (e0.bs b o e).1
 have lim : s.heap.NoLimit := e0.mod.nolimit.keeps fun b o e => (e0.bs b o e).1
 have hkind : ∀ y ∈ ps.zip us, scope.names.lookup y.1 = some .local ∨ (scope.names.lookup y.1 = some .cell ∧ ((cellsFrom (s.heap.objs.size + 1) scope.names []).lookup y.1).isSome = true) := fun ⟨n, v⟩ hy => by
  rcases S.par n (List.of_mem_zip hy).1 with q | q
  ·exact .inl q
  ·exact .inr ⟨q, PySem.W.cellsFrom_some _ _ _ (.inl q)⟩
 refine codeAny_call_function hr.depth (KX _ _ lk) rfl S.co S.gen rfl (PySem.W.codeRec_of KX hcd) (hb _ _ _ _ ?_)
 refine wpAny_newFunctionEnv_cells S.kind hkind fun env he s1 x => ?_
 subst he
 refine ⟨lim.keeps x.toInCall.keep, codeAny_func ?_⟩
 obtain ⟨t, ht, hq⟩ := hbody A outer s H vs Q E (hr.deeper _) hsp
 have I : Inv (cxOf CX P w K mg base N qual scope f cdv A outer s H E) [] (start N vs) H s1 := mU S hr.hd e0 hl r x
 refine wpAny_mono (ht [] s1 (start N vs) H _ I hq) (fun fl s' hs => ?_) fun e s' hs => hs
 have fin : ∀ {σ' : St} {H' : Hp} {v : V} {u : Value}, Inv (cxOf CX P w K mg base N qual scope f cdv A outer s H E) [] σ' H' s' → RelV v u → Q v H' → CE outer P w H s Q u s' :=
  fun {σ' H' v u} J rv q => ⟨v, H', J.os, J.bare, J.base, J.hok, rv, q⟩
 cases fl with
 | ret u =>
  obtain ⟨v, σ', H', J, rv, q⟩ := hs
  exact fin J rv q
 | next =>
  obtain ⟨σ', H', J, q⟩ := hs
  exact fin (v := V.non) (u := Value.none) J rfl q
 | brk =>
  obtain ⟨_, _, _, q⟩ := hs
  exact False.elim q
 | cont =>
  obtain ⟨_, _, _, q⟩ := hs
  exact False.elim q
end L2
namespace L2
open PySem PySem.Spec PyProof.Rows
section
variable {X : Cx} {x : Str} {p pos : Pos} {e : Expr} {es : List Expr} {t : TA} {id T : String} {r : List V → Hp → VK → Prop}
def tCB (r : List V → Hp → VK → Prop) (t : TA) : TE := fun σ H Q => t σ H fun vs H1 => r vs H1 Q
theorem dM (hc : CallR X (.builtin id) r) (hg : Gl X x) (hm : X.mg x = none) (hv : bootBuiltins x = some (.builtin id)) (ha : PA X (e :: es) t) (hn : x ≠ "__name__" := by decide) (hdb : (x == ("__debug__" : Str)) = false := by decide)
  (he : starEach (e :: es) X.env = (false, eval e X.env) :: starEach es X.env := by rfl) (hpl : (backTo pos (starEach es X.env)).any (·.1) = false := by rfl) : PE X (.Call (.Name x p) (e :: es) [] pos) (tCB r t) := by
 intro pins s σ H Q I h
 refine wpAny_Call_Name_kw (iG I hg hm hv ?_ hn hdb)
 exact PyProof.Rows.callWith_builtin1 (thn (ha pos pins s σ H _ I h) fun us s1 ⟨vs, H1, I1, r1, q1⟩ => hc pins s1 σ H1 vs us Q I1 r1 q1) he hpl
theorem d9 (hc : CallR X (.type T) r) (hg : Gl X x) (hm : X.mg x = none) (hv : bootBuiltins x = some (.type T)) (ha : PA X (e :: es) t) (hn : x ≠ "__name__" := by decide) (hdb : (x == ("__debug__" : Str)) = false := by decide)
  (he : starEach (e :: es) X.env = (false, eval e X.env) :: starEach es X.env := by rfl) (hpl : (backTo pos (starEach es X.env)).any (·.1) = false := by rfl) : PE X (.Call (.Name x p) (e :: es) [] pos) (tCB r t) := by
 intro pins s σ H Q I h
 refine wpAny_Call_Name_kw (iG I hg hm hv ?_ hn hdb)
 exact PyProof.Rows.callWith_type1 (thn (ha pos pins s σ H _ I h) fun us s1 ⟨vs, H1, I1, r1, q1⟩ => hc pins s1 σ H1 vs us Q I1 r1 q1) he hpl
end
end L2
namespace L2
open PySem PySem.Spec PyProof.Rows
section
variable {κ : Type} [DecidableEq κ]
def valV (kvs : List (κ × V)) (k : κ) : Option V := (kvs.find? fun kv => decide (kv.1 = k)).map (·.2)
def putK (kvs : List (κ × V)) (k : κ) (v : V) : List (κ × V) :=
 if (kvs.any fun kv => decide (kv.1 = k)) = true then kvs.map (fun kv => if kv.1 = k then (kv.1, v) else kv) else kvs ++ [(k, v)]
theorem dN {p : κ × V} {r : List (κ × V)} {k : κ} (e : p.1 = k) : valV (p :: r) k = some p.2 := by simp [valV, List.find?_cons, e]
theorem dO {p : κ × V} {r : List (κ × V)} {k : κ} (e : ¬ p.1 = k) : valV (p :: r) k = valV r k := by simp [valV, List.find?_cons, e]
theorem jC (k : κ) : ∀ kvs : List (κ × V), (kvs.any fun kv => decide (kv.1 = k)) = (valV kvs k).isSome
 | [] => rfl
 | p :: r => by
  rw [List.any_cons]
  by_cases e : p.1 = k
  ·simp only [dN e, decide_eq_true e, Bool.true_or, Option.isSome_some]
  ·rw [dO e, decide_eq_false e, Bool.false_or]; exact jC k r
theorem eJ (kvs : List (κ × V)) (k : κ) (v : V) : (putK kvs k v).length ≤ kvs.length + 1 := by
 unfold putK
 split
 ·rw [List.length_map]; omega
 ·rw [List.length_append, List.length_cons, List.length_nil]; omega
theorem RelO.isSome_eq {o : Option V} {u : Option Value} (r : RelO o u) : o.isSome = u.isSome := by
 cases o with
 | none => cases u with
  | none => rfl
  | some _ => exact (show False from r).elim
 | some _ => cases u with
  | none => exact (show False from r).elim
  | some _ => rfl
theorem KV.val {kvs : List (κ × V)} {vs : List (κ × Value)} (r : KV kvs vs) (k : κ) : RelO (valV kvs k) (valueAt vs k) := by
 unfold KV at r
 induction r with
 | nil => exact True.intro
 | @cons p q ps qs h t ih =>
  obtain ⟨h1, h2⟩ := h
  by_cases e : p.1 = k
  ·have e' : q.1 = k := h1.symm.trans e
   have b : valueAt (q :: qs) k = some q.2 := by simp [valueAt, List.find?_cons, e']
   rw [dN e, b]; exact h2
  ·have e' : ¬ q.1 = k := fun z => e (h1.trans z)
   have b : valueAt (q :: qs) k = valueAt qs k := by simp [valueAt, List.find?_cons, e']
   rw [dO e, b]; exact ih
theorem KV.any {kvs : List (κ × V)} {vs : List (κ × Value)} (r : KV kvs vs) (k : κ) : (kvs.any fun kv => decide (kv.1 = k)) = vs.any fun kv => decide (kv.1 = k) := by
 unfold KV at r
 induction r with
 | nil => rfl
 | cons h t ih => rw [List.any_cons, List.any_cons, ih, h.1]
theorem KV.repl {kvs : List (κ × V)} {vs : List (κ × Value)} (r : KV kvs vs) (k : κ) {y : V} {u : Value} (ry : RelV y u) :
  KV (kvs.map fun kv => if kv.1 = k then (kv.1, y) else kv) (vs.map fun kv => if kv.1 = k then (kv.1, u) else kv) := by
 unfold KV at r ⊢
 induction r with
 | nil => exact .nil
 | @cons p q ps qs h t ih =>
  rw [List.map_cons, List.map_cons]
  refine .cons ?_ ih
  obtain ⟨h1, h2⟩ := h
  by_cases e : p.1 = k
  ·rw [if_pos e, if_pos (h1.symm.trans e)]; exact ⟨h1, ry⟩
  ·rw [if_neg e, if_neg (fun z => e (h1.trans z))]; exact ⟨h1, h2⟩
theorem KV.put {kvs : List (κ × V)} {vs : List (κ × Value)} (r : KV kvs vs) (k : κ) {y : V} {u : Value} (ry : RelV y u) : KV (putK kvs k y) (stored vs k u) := by
 unfold putK stored
 rw [r.any k]
 by_cases e : (vs.any fun kv => decide (kv.1 = k)) = true
 ·rw [if_pos e, if_pos e]; exact r.repl k ry
 ·rw [if_neg e, if_neg e]; exact Paired.snoc r ⟨rfl, ry⟩
theorem KV.length {kvs : List (κ × V)} {vs : List (κ × Value)} (r : KV kvs vs) : kvs.length = vs.length := Paired.length r
end
theorem jD {P : Program} {w : World} {k : Key} {u : Value} (r : RelV (kV k) u) : (mixKind P w).is k u = true := by
 cases k with
 | inl i => obtain ⟨t, e⟩ := (show ∃ t, u = Value.int i t from r); subst e; exact i8 P w i t
 | inr x => obtain ⟨t, e⟩ := (show ∃ t, u = Value.str x t from r); subst e; exact i9 P w x t
theorem gZ {P : Program} {w : World} : ∀ {ks : List Key} {us : List Value}, Vals (ks.map kV) us → ItemsAre (mixKind P w) ks us
 | [], _, r => by rw [List.map_nil] at r; cases r; exact .nil
 | k :: ks, _, r => by
  rw [List.map_cons] at r
  cases r with
  | cons h t => exact .cons (jD h) (gZ t)
abbrev KT (H : Hp) : List (List Key × V) → List (List Key × Addr × Value) → Prop := Paired fun p q => p.1 = q.1 ∧ H q.2.1 = some (.tup (p.1.map kV)) ∧ RelV p.2 q.2.2
theorem KT.val {H : Hp} {kvs : List (List Key × V)} {xs : List (List Key × Addr × Value)} (r : KT H kvs xs) (k : List Key) : RelO (valV kvs k) ((atKey xs k).map (·.2)) := by
 induction r with
 | nil => exact True.intro
 | @cons p q ps qs h t ih =>
  obtain ⟨h1, _, h2⟩ := h
  by_cases e : p.1 = k
  ·have e' : q.1 = k := h1.symm.trans e
   have b : atKey (q :: qs) k = some q.2 := by simp [atKey, List.find?_cons, e']
   rw [dN e, b]; exact h2
  ·have e' : ¬ q.1 = k := fun z => e (h1.trans z)
   have b : atKey (q :: qs) k = atKey qs k := by simp [atKey, List.find?_cons, e']
   rw [dO e, b]; exact ih
theorem KT.repl {H : Hp} {kvs : List (List Key × V)} {xs : List (List Key × Addr × Value)} (r : KT H kvs xs) (k : List Key) {y : V} {u : Value} (ry : RelV y u) :
  KT H (kvs.map fun kv => if kv.1 = k then (kv.1, y) else kv) (xs.map (putAt k u)) := by
 induction r with
 | nil => exact .nil
 | @cons p q ps qs h t ih =>
  rw [List.map_cons, List.map_cons]
  refine .cons ?_ ih
  obtain ⟨h1, h2, h3⟩ := h
  unfold putAt
  by_cases e : p.1 = k
  ·rw [if_pos e, if_pos (h1.symm.trans e)]; exact ⟨h1, h2, ry⟩
  ·rw [if_neg e, if_neg (fun z => e (h1.trans z))]; exact ⟨h1, h2, h3⟩
theorem KT.put {H : Hp} {kvs : List (List Key × V)} {xs : List (List Key × Addr × Value)} (r : KT H kvs xs) (k : List Key) {b : Addr} {y : V} {u : Value} (hb : H b = some (.tup (k.map kV))) (ry : RelV y u) :
  KT H (putK kvs k y) (storedH xs k b u) := by
 have e : (kvs.any fun kv => decide (kv.1 = k)) = (atKey xs k).isSome := by
  rw [jC, (r.val k).isSome_eq, Option.isSome_map]
 unfold putK storedH
 rw [e]
 by_cases q : (atKey xs k).isSome = true
 ·rw [if_pos q, if_pos q]; exact r.repl k ry
 ·rw [if_neg q, if_neg q]; exact Paired.snoc r ⟨rfl, hb, ry⟩
theorem KT.keeps {H H' : Hp} {kvs : List (List Key × V)} {xs : List (List Key × Addr × Value)} (r : KT H kvs xs) (ht : ∀ b ys, H b = some (.tup ys) → H' b = some (.tup ys)) : KT H' kvs xs :=
 Paired.mapP r fun _ _ z => ⟨z.1, ht _ _ z.2.1, z.2.2⟩
section
variable {P : Program} {w : World} {H : Hp} {h : Heap} {a : Addr}
theorem rd_of {u : HO} (ok : HOk P w H h) (e : Rd H a u) : ObjOk P w H h a u := e.ok ok
theorem g4 {kvs : List (Key × V)} (ok : HOk P w H h) (e : Rd H a (.dK kvs)) : kvs.length ≤ sizeLine ∧ (a == sysModules) = false ∧ ∃ vs, KV kvs vs ∧ h.DictOf (mixKind P w) a vs :=
 show ObjOk P w H h a (.dK kvs) from rd_of ok e
theorem dk_of {kvs : List (Key × V)} (ok : HOk P w H h) (e : H a = some (.dK kvs)) : kvs.length ≤ sizeLine ∧ (a == sysModules) = false ∧ ∃ vs, KV kvs vs ∧ h.DictOf (mixKind P w) a vs := g4 ok (.inl e)
theorem fG {ks : List Key} (ok : HOk P w H h) (e : H a = some (.tup (ks.map kV))) : (tupleKind (mixKind P w)).is h ks a := by
 obtain ⟨_, its, r, o, h1, h2, n, h3⟩ := (show ObjOk P w H h a (.tup (ks.map kV)) from ok a _ e)
 exact ⟨o, its.toArray, n, h1, h2, h3, by simpa using gZ r⟩
theorem jE {kvs : List (List Key × V)} (ok : HOk P w H h) (e : Rd H a (.dT kvs)) : kvs.length ≤ sizeLine ∧ (a == sysModules) = false ∧
  ∃ xs, KT H kvs xs ∧ h.DictOfH (tupleKind (mixKind P w)) a xs := by
 obtain ⟨z, y, xs, r, o, es, ep, h1, h2, h3, h4, h5⟩ := (show ObjOk P w H h a (.dT kvs) from rd_of ok e)
 refine ⟨z, y, xs, r, o, es, ep, h1, h2, h3, h4, fun x hx => ?_, h5⟩
 have all : ∀ {l : List (List Key × V)} {m : List (List Key × Addr × Value)}, KT H l m → ∀ x ∈ m, (tupleKind (mixKind P w)).is h x.1 x.2.1 := by
  intro l m q
  induction q with
  | nil => intro x hx; exact nomatch hx
  | @cons p q ps qs hq t ih =>
   intro x hx
   rcases List.mem_cons.mp hx with e | hx
   ·subst e
    exact fG ok (by rw [← hq.1]; exact hq.2.1)
   ·exact ih x hx
 exact all r x hx
theorem dt_of {kvs : List (List Key × V)} (ok : HOk P w H h) (e : H a = some (.dT kvs)) : kvs.length ≤ sizeLine ∧ (a == sysModules) = false ∧
  ∃ xs, KT H kvs xs ∧ h.DictOfH (tupleKind (mixKind P w)) a xs := jE ok (.inl e)
end
def DGet (H : Hp) (a : Addr) (y : V) (r : Option V) : Prop :=
 (∃ kvs k, Rd H a (.dK kvs) ∧ y = kV k ∧ r = valV kvs k) ∨ ∃ kvs k b, Rd H a (.dT kvs) ∧ y = .ref b ∧ H b = some (.tup (k.map kV)) ∧ r = valV kvs k
def DPut (H : Hp) (a : Addr) (y v : V) (H' : Hp) : Prop :=
 (∃ kvs k, H a = some (.dK kvs) ∧ y = kV k ∧ kvs.length < sizeLine ∧ H' = upd H a (.dK (putK kvs k v))) ∨
 ∃ kvs k b, H a = some (.dT kvs) ∧ y = .ref b ∧ H b = some (.tup (k.map kV)) ∧ kvs.length < sizeLine ∧ H' = upd H a (.dT (putK kvs k v))
theorem DGet.k {H : Hp} {a : Addr} {kvs : List (Key × V)} {k : Key} (e : H a = some (.dK kvs)) : DGet H a (kV k) (valV kvs k) := .inl ⟨kvs, k, .inl e, rfl, rfl⟩
theorem DPut.k {H : Hp} {a : Addr} {kvs : List (Key × V)} {k : Key} {v : V} (e : H a = some (.dK kvs)) (hl : kvs.length < sizeLine) : DPut H a (kV k) v (upd H a (.dK (putK kvs k v))) := .inl ⟨kvs, k, e, rfl, hl, rfl⟩
section
variable {X : Cx} {pins : List (Addr × Obj)} {σ : St} {H : Hp} {s : Shared} {a : Addr} {y v : V} {u r : Value} {o : Option V} {A : Around} {E : Value → Shared → Prop}
theorem Inv.big (I : Inv X pins σ H s) : sysModules < s.heap.objs.size := by
 have h : mainGlobals < s.heap.objs.size := (I.mod.glob.keeps I.bk).lt
 exact Nat.lt_trans (by decide) h
theorem mV {Q : Value → Shared → Prop} (hu : A.units + 1 < cLine) (I : Inv X pins σ H s) (g : DGet H a y (some v)) (ry : RelV y u) (h : ∀ w' s', Inv X pins σ H s' → RelV v w' → Q w' s') :
  wpAny (model X.prog X.w) A (getItem (.ref a) u) Q E s := by
 rcases g with ⟨kvs, k, e, ey, l⟩ | ⟨kvs, k, b, e, ey, eb, l⟩
 ·subst ey
  obtain ⟨z, hd, vs, rel, dd⟩ := g4 I.hok e
  obtain ⟨w', hw, rw'⟩ := RelO.some_of (v := v) (o := valueAt vs k) (by rw [l]; exact rel.val k)
  exact wpAny_getItem_of (jD ry) dd.mapOf hw (h w' _ (I.tok _) rw')
 ·subst ey
  cases (show u = Value.ref b from ry)
  obtain ⟨z, hd, xs, rel, dd⟩ := jE I.hok e
  obtain ⟨w', hw, rw'⟩ := RelO.some_of (v := v) (o := (atKey xs k).map (·.2)) (by rw [l]; exact rel.val k)
  obtain ⟨p, hp, hp2⟩ := Option.map_eq_some_iff.mp hw
  refine wpAny_getItem_heap (tupleKind_room_in1 hu) (fG I.hok eb) dd hp ?_
  rw [hp2]
  exact h w' _ (I.tok _) rw'
theorem d_in {Q : Value → Shared → Prop} (hu : A.units + 1 < cLine) (I : Inv X pins σ H s) (g : DGet H a y o) (ry : RelV y u) (h : ∀ s', Inv X pins σ H s' → Q (.bool o.isSome) s') :
  wpAny (model X.prog X.w) A (compareOp .In u (.ref a)) Q E s := by
 rcases g with ⟨kvs, k, e, ey, l⟩ | ⟨kvs, k, b, e, ey, eb, l⟩
 ·subst ey
  obtain ⟨z, hd, vs, rel, dd⟩ := g4 I.hok e
  refine wpAny_in_of (jD ry) hd dd.mapOf ?_
  rw [← (rel.val k).isSome_eq, ← l]
  exact h _ (I.tok _)
 ·subst ey
  cases (show u = Value.ref b from ry)
  obtain ⟨z, hd, xs, rel, dd⟩ := jE I.hok e
  refine wpAny_in_heap (tupleKind_room_in1 hu) (fG I.hok eb) hd dd ?_
  have q := (rel.val k).isSome_eq
  rw [Option.isSome_map] at q
  rw [← q, ← l]
  exact h _ (I.tok _)
theorem d_notIn {Q : Value → Shared → Prop} (hu : A.units + 1 < cLine) (I : Inv X pins σ H s) (g : DGet H a y o) (ry : RelV y u) (h : ∀ s', Inv X pins σ H s' → Q (.bool (!o.isSome)) s') :
  wpAny (model X.prog X.w) A (compareOp .NotIn u (.ref a)) Q E s := by
 rcases g with ⟨kvs, k, e, ey, l⟩ | ⟨kvs, k, b, e, ey, eb, l⟩
 ·subst ey
  obtain ⟨z, hd, vs, rel, dd⟩ := g4 I.hok e
  refine wpAny_notIn_of (jD ry) hd dd.mapOf ?_
  rw [← (rel.val k).isSome_eq, ← l]
  exact h _ (I.tok _)
 ·subst ey
  cases (show u = Value.ref b from ry)
  obtain ⟨z, hd, xs, rel, dd⟩ := jE I.hok e
  refine wpAny_notIn_heap (tupleKind_room_in1 hu) (fG I.hok eb) hd dd ?_
  have q := (rel.val k).isSome_eq
  rw [Option.isSome_map] at q
  rw [← q, ← l]
  exact h _ (I.tok _)
theorem lS {h' : Heap} {t' : Nat} {ob : HO} (I : Inv X pins σ H s) (mu : Mut (H a)) (hs : Heap.SameBut a s.heap h') (he : ∃ q, h'.get? a = some q) (new : ObjOk X.prog X.w (upd H a ob) h' a ob) :
  Inv X pins σ (upd H a ob) { s with heap := h', toks := t' } :=
 I.write (x := a) (e := a) mu (.inl rfl) (fun b q hb z => (hs.2 b hb).trans z) he new
theorem dk_new {P : Program} {w : World} {H' : Hp} {h' : Heap} {kvs : List (Key × V)} {vs : List (Key × Value)} (z : kvs.length ≤ sizeLine) (hd : (a == sysModules) = false) (rel : KV kvs vs) (dd : h'.DictOf (mixKind P w) a vs) :
  ObjOk P w H' h' a (.dK kvs) := ⟨z, hd, vs, rel, dd⟩
theorem mW {H' : Hp} {Q : Unit → Shared → Prop} (hu : A.units + 1 < cLine) (I : Inv X pins σ H s) (g : DPut H a y v H') (ry : RelV y u) (rv : RelV v r) (h : ∀ s', Inv X pins σ H' s' → Q () s') :
  wpAny (model X.prog X.w) A (setItem (.ref a) u r) Q E s := by
 rcases g with ⟨kvs, k, e, ey, l, eH⟩ | ⟨kvs, k, b, e, ey, eb, l, eH⟩
 ·subst ey eH
  obtain ⟨z, hd, vs, rel, dd⟩ := dk_of I.hok e
  have hz : vs.length ≤ sizeLine := by rw [← rel.length]; exact z
  have hl : (putK kvs k v).length ≤ sizeLine := by have := eJ kvs k v; omega
  refine wpAny_setItem_pairs (hsz := hz) (jD ry) dd fun h' dd' hs => h _ ?_
  have he : ∃ q, h'.get? a = some q := let ⟨q, _, _, hq, _⟩ := dd'; ⟨q, hq⟩
  exact lS I (by rw [e]; exact True.intro) hs he (dk_new hl hd (rel.put k rv) dd')
 ·subst ey eH
  cases (show u = Value.ref b from ry)
  obtain ⟨z, hd, xs, rel, dd⟩ := dt_of I.hok e
  have hz : xs.length ≤ sizeLine := by rw [← Paired.length rel]; exact z
  have hl : (putK kvs k v).length ≤ sizeLine := by have := eJ kvs k v; omega
  refine wpAny_setItem_heap (hsz := hz) (tupleKind_room_in1 hu) (fG I.hok eb) dd fun h' dd' hs => h _ ?_
  obtain ⟨q, es, ep, hq, h2, h3, h4, _, h5⟩ := dd'
  refine lS I (by rw [e]; exact True.intro) hs ⟨q, hq⟩ ⟨hl, hd, _, (rel.put k eb rv).keeps fun c ys ec => ?_, q, es, ep, hq, h2, h3, h4, h5⟩
  rw [aL (ne_of ec e (fun z => nomatch z))]
  exact ec
end
section
variable {X : Cx} {pins : List (Addr × Obj)} {σ : St} {H : Hp} {s : Shared} {a : Addr} {kvs : List (Key × V)} {k : Key} {u : Value} {A : Around} {E : Value → Shared → Prop}
theorem d_len {Q : Value → Shared → Prop} (I : Inv X pins σ H s) (e : Rd H a (.dK kvs)) (h : ∀ t s', Inv X pins σ H s' → Q (.int kvs.length t) s') : wpAny (model X.prog X.w) A (call (.builtin "len") [.ref a]) Q E s := by
 obtain ⟨z, hd, vs, rel, dd⟩ := g4 I.hok e
 refine call_len_dict hd dd (by rw [← rel.length]; rw [sizeLine_eq] at z; omega) ?_
 rw [← rel.length]
 exact h _ _ (I.tok _)
end
def NoSl (i : Expr) : Prop := ∀ ov iv, subscripted i false ov iv = operate [ov, iv] (getItem ov iv)
theorem subD_of {prog : Program} {w : World} {A : Around} {E : Value → Shared → Prop} {s : Shared} {env : Env} {value slice : Expr} {pos : Pos} {T id : String} {Q : Value → Shared → Prop}
  (hl : typeLookup (.type T) "__getitem__" = pure (some (.builtin id))) (hs : NoSl slice)
  (h : wpAny (model prog w) A (eval value env) (fun o s₁ => wpAny (model prog w) A (eval slice env) (fun i s₂ => s₂.TypeIs o T ∧ wpAny (model prog w) A (getItem o i) Q E s₂) E s₁) E s) :
  wpAny (model prog w) A (eval (.Subscript value slice pos) env) Q E s := by
 refine Subscript_ (wpAny_mono h (fun o s₁ h₁ => wpAny_mono h₁ (fun i s₂ h₂ => ?_) fun _ _ x => x) fun _ _ x => x)
 obtain ⟨hT, h₂⟩ := h₂
 unfold subscriptTail
 refine wpAny_bind ?_
 rw [getitemInPython_of_ne hT.not_modules]
 refine wpAny_bind (wpAny_specialOf hT hl ?_)
 have fin : wpAny (model prog w) A (subscripted slice false o i) (fun r s₃ => wpAny (model prog w) A (letTemporaryGo value o r >>= fun _ => pure r) Q E s₃) E s₂ := by
  rw [hs o i]
  exact wpAny_operating (wpAny_mono h₂ (fun r s₃ h₃ => wpAny_bind (wpAny_letTemporaryGo (wpAny_pure h₃))) fun _ _ x => x)
 first
  | exact wpAny_pure (wpAny_bind fin)
  | exact wpAny_bind (wpAny_pure (wpAny_bind fin))
  | exact wpAny_bind fin
theorem jF {X : Cx} {pins : List (Addr × Obj)} {σ : St} {H : Hp} {s : Shared} {a : Addr} {y : V} {o : Option V} (I : Inv X pins σ H s) (g : DGet H a y o) : s.TypeIs (.ref a) "dict" := by
 rcases g with ⟨kvs, k, e, _, _⟩ | ⟨kvs, k, b, e, _, _, _⟩
 ·obtain ⟨_, _, vs, _, dd⟩ := g4 I.hok e
  exact dd.typeIs
 ·obtain ⟨_, _, xs, _, dd⟩ := jE I.hok e
  exact dd.typeIs
def tDGet (td ty : TE) : TE := fun σ H Q => td σ H fun x H1 => ty σ H1 fun y H2 => ∃ a v, x = .ref a ∧ DGet H2 a y (some v) ∧ Q v H2
def tDIn (ty td : TE) : TE := fun σ H Q => ty σ H fun y H1 => td σ H1 fun x H2 => ∃ a o, x = .ref a ∧ DGet H2 a y o ∧ Q (.bl o.isSome) H2
def tDNotIn (ty td : TE) : TE := fun σ H Q => ty σ H fun y H1 => td σ H1 fun x H2 => ∃ a o, x = .ref a ∧ DGet H2 a y o ∧ Q (.bl (!o.isSome)) H2
def sDPut (td ty tv : TE) : TS := fun D σ H => tv σ H fun v H1 => td σ H1 fun x H2 => ty σ H2 fun y H3 => ∃ a H4, x = .ref a ∧ DPut H3 a y v H4 ∧ D.nx σ H4
section
variable {X : Cx} {o i e value : Expr} {pos pos' tpos : Pos} {td ty tv : TE}
theorem pe_dget (hu : X.A.units + 1 < cLine) (ho : PE X o td) (hi : PE X i ty) (hs : NoSl i) : PE X (.Subscript o i pos) (tDGet td ty) := by
 intro pins s σ H Q I h
 refine subD_of PySem.F.slot_dict_getitem.lookup hs (thn (ho pins s σ H _ I h) fun u s1 ⟨x, H1, I1, rx, q1⟩ => thn (hi pins s1 σ H1 _ I1 q1) fun iv s2 ⟨y, H2, I2, ry, a, v, ex, g, q2⟩ => ?_)
 subst ex
 obtain rfl : u = Value.ref a := rx
 exact ⟨jF I2 g, mV hu I2 g ry fun w' s3 I3 rw' => ⟨v, H2, I3, rw', q2⟩⟩
theorem pc_din (hu : X.A.units + 1 < cLine) (hi : PE X i ty) (ho : PE X o td) : PC X .In i o (tDIn ty td) := by
 intro pins s σ H Q I h
 refine thn (hi pins s σ H _ I h) fun iv s1 ⟨y, H1, I1, ry, q1⟩ => thn (ho pins s1 σ H1 _ I1 q1) fun u s2 ⟨x, H2, I2, rx, a, ov, ex, g, q2⟩ => ?_
 subst ex
 obtain rfl : u = Value.ref a := rx
 exact d_in hu I2 g ry fun s3 I3 => ⟨.bl ov.isSome, H2, I3, rfl, q2⟩
theorem mX (hu : X.A.units + 1 < cLine) (hi : PE X i ty) (ho : PE X o td) : PC X .NotIn i o (tDNotIn ty td) := by
 intro pins s σ H Q I h
 refine thn (hi pins s σ H _ I h) fun iv s1 ⟨y, H1, I1, ry, q1⟩ => thn (ho pins s1 σ H1 _ I1 q1) fun u s2 ⟨x, H2, I2, rx, a, ov, ex, g, q2⟩ => ?_
 subst ex
 obtain rfl : u = Value.ref a := rx
 exact d_notIn hu I2 g ry fun s3 I3 => ⟨.bl (!ov.isSome), H2, I3, rfl, q2⟩
theorem ps_dput (hu : X.A.units + 1 < cLine) (ho : PE X o td) (hi : PE X i ty) (hv : PE X value tv) (hs : swapsWith value (some (.Subscript o i pos')) pos.line X.env = pure false) :
  PS X (.Assign [.Subscript o i pos'] value pos) (sDPut td ty tv) := by
 intro pins s σ H D I h
 refine wpAny_Assign_Subscript (thn (hv pins s σ H _ I h) fun r s1 ⟨v, H1, I1, rv, q1⟩ => thn (ho pins s1 σ H1 _ I1 q1) fun u s2 ⟨x, H2, I2, rx, q2⟩ => thn (hi pins s2 σ H2 _ I2 q2) fun iv s3 ⟨y, H3, I3, ry, a, H4, ex, g, q3⟩ => ?_) hs
 subst ex
 obtain rfl : u = Value.ref a := rx
 exact mW hu I3 g ry rv fun s4 I4 => ⟨σ, H4, I4, q3⟩
end
theorem oO {P : Program} {w : World} {H : Hp} (h : Heap) (hb : sysModules < h.objs.size) : ObjOk P w H (h.push { cls := .type "dict", data := .dict #[] }) h.objs.size (.dK []) :=
 ⟨Nat.zero_le _, beq_eq_false_iff_ne.mpr (Ne.symm (Nat.ne_of_lt hb)), [], .nil, Heap.DictOf.new h⟩
def tDNewK : TE := fun _ H Q => ∀ p, H p = none → Q (.ref p) (upd H p (.dK []))
section
variable {X : Cx} {pos : Pos}
theorem oP : PE X (.Dict [] [] pos) tDNewK := fun pins s σ H Q I h =>
 wpAny_Dict_empty ⟨.ref s.heap.objs.size, _, I.laid (a := s.heap.objs.size) (o := .dK []) (t' := s.toks) (fun _ _ q => Heap.get?_push_of_some _ q) (Nat.le_refl _) (oO s.heap I.big), rfl, h _ (I.hok.fresh (Nat.le_refl _))⟩
end
structure M1 (X : Cx) (o : Expr) (m : Str) (apos : Pos) (e : Expr) (cpos : Pos) : Prop where
 base : attributeBase o m X.env (eval o X.env) = eval o X.env
 few : ((backTo cpos (starEach [e] X.env)).all (fun x => !x.1) && (backToKw cpos (keywordEach [] X.env)).all (fun x => x.1.isSome)
  && decide (([e] : List Expr).length + ([] : List Keyword).length + (if ([] : List Keyword).isEmpty then 0 else 1) < 30)) = true
 line : (apos.endLine == cpos.line) = true
 trees : backTo cpos (starEach [e] X.env) = [(false, eval e X.env)]
structure M2 (X : Cx) (o : Expr) (m : Str) (apos : Pos) (e f : Expr) (cpos : Pos) : Prop where
 base : attributeBase o m X.env (eval o X.env) = eval o X.env
 few : ((backTo cpos (starEach [e, f] X.env)).all (fun x => !x.1) && (backToKw cpos (keywordEach [] X.env)).all (fun x => x.1.isSome)
  && decide (([e, f] : List Expr).length + ([] : List Keyword).length + (if ([] : List Keyword).isEmpty then 0 else 1) < 30)) = true
 line : (apos.endLine == cpos.line) = true
 trees : backTo cpos (starEach [e, f] X.env) = [(false, eval e X.env), (false, eval f X.env)]
section
variable {X : Cx} {pins : List (Addr × Obj)} {σ : St} {H : Hp} {s : Shared} {a : Addr} {y d : V} {u r : Value} {o : Option V} {A : Around} {E : Value → Shared → Prop}
end
section
variable {X : Cx} {o e f : Expr} {apos cpos : Pos} {td ty tx : TE}
end
section
variable {X : Cx} {pins : List (Addr × Obj)} {σ : St} {H : Hp} {s : Shared} {a : Addr} {kvs : List (Key × V)} {A : Around} {E : Value → Shared → Prop}
end
section
variable {X : Cx} {pins : List (Addr × Obj)} {σ : St} {H : Hp} {s : Shared} {a : Addr} {y : V} {u : Value} {A : Around} {E : Value → Shared → Prop}
end
end L2
namespace HT
open PySem PyProof.Rows
section
open PySem.SeqAt
open PySem.AutoSeq1 (wpAny_loadPart')
open PySem.MeetsSeq PySem.MeetsSeq2 PySem.MeetsSeq3
end
section
variable {prog : Program} {w : World} {A : Around} {E : Value → Shared → Prop} {s : Shared}
theorem cat_tup {t b : Addr} {vs ws : List Value} {Q : Value → Shared → Prop} (ht : IsTup s.heap t vs.toArray) (hb : IsTup s.heap b ws.toArray) (hv : vs ≠ [])
  (h1 : ws = [] → Q (.ref t) s) (h2 : ws ≠ [] → Q (.ref s.heap.objs.size) { s with heap := s.heap.push { cls := .type "tuple", data := .seq (vs ++ ws).toArray } })
  (hsz : vs.length + ws.length ≤ sizeLine) : wpAny (model prog w) A (binaryOp .Add (.ref t) (.ref b)) Q E s := by
 obtain ⟨⟨cls, dd, data, sl⟩, ho, hc, n, hd⟩ := id ht
 obtain ⟨⟨cls2, dd2, data2, sl2⟩, ho2, hc2, n2, hd2⟩ := id hb
 simp only at hc hd hc2 hd2
 subst hc hd hc2 hd2
 have e : vs.toArray ++ ws.toArray = (vs ++ ws).toArray := by simp
 by_cases hw : ws = []
 ·exact concat_meets ⟨_, ho, rfl⟩ ⟨_, ho2, rfl⟩ noFill_tuple_add seq_tuple_add PySem.F.slot_tuple_add PySem.F.entry_tuple_add (PySem.F.args_tuple_add_2 _ _)
   (tuple_addW1 t b vs.toArray ws.toArray n n2 dd dd2 sl sl2 (by simpa using hv) (by simp [hw])) ⟨ho, ho2, h1 hw⟩
 ·refine concat_meets ⟨_, ho, rfl⟩ ⟨_, ho2, rfl⟩ noFill_tuple_add seq_tuple_add PySem.F.slot_tuple_add PySem.F.entry_tuple_add (PySem.F.args_tuple_add_2 _ _)
   (tuple_addW2 t b vs.toArray ws.toArray n n2 dd dd2 sl sl2 (by simpa using hv) (by simpa using hw) (by rw [List.size_toArray, List.size_toArray]; exact hsz)) ⟨ho, ho2, ?_⟩
  rw [e]
  exact h2 hw
def sIx (n d : Nat) : Option Int → Nat
 | none => d
 | some v => if v < 0 then (v + (n : Int)).toNat else min v.toNat n
theorem sIx_le (n d : Nat) (hd : d ≤ n) (o : Option Int) : sIx n d o ≤ n := by
 cases o with
 | none => exact hd
 | some v =>
  show (if v < 0 then (v + (n : Int)).toNat else min v.toNat n) ≤ n
  by_cases hv : v < 0
  ·rw [if_pos hv]; omega
  ·rw [if_neg hv]; exact Nat.min_le_right _ _
theorem lT (v : Int) (n d : Nat) : (if v < 0 then max (v + (n : Int)) 0 else min v (n : Int)) = ((sIx n d (some v) : Nat) : Int) := by
 show (if v < 0 then max (v + (n : Int)) 0 else min v (n : Int)) = (((if v < 0 then (v + (n : Int)).toNat else min v.toNat n) : Nat) : Int)
 by_cases hv : v < 0
 ·simp only [if_pos hv]; omega
 ·simp only [if_neg hv]; omega
theorem kI (lo hi : Option Int) (n : Nat) : Builtin.Slice.sliceAdjust lo hi 1 (n : Int) = (((sIx n 0 lo : Nat) : Int), ((sIx n n hi : Nat) : Int)) := by
 have h1 : ¬ ((1 : Int) < 0) := by omega
 unfold Builtin.Slice.sliceAdjust
 simp only [h1, if_false]
 refine Prod.ext ?_ ?_
 ·cases lo with
  | none => rfl
  | some v => exact lT v n 0
 ·cases hi with
  | none => rfl
  | some v => exact lT v n n
theorem kJ (i j : Nat) : Builtin.Slice.slicePlaces (i : Int) (j : Int) 1 = j - i := by
 unfold Builtin.Slice.slicePlaces
 have h1 : (1 : Int) > 0 := by omega
 simp only [h1, if_true, Int.ediv_one]
 split <;> omega
theorem fH {v : Value} {o : Option Int} {Q : Option Int → Shared → Prop} (p : IsPart v o) (h : Q o s) : wpAny (model prog w) A (Builtin.Slice.slicePartIndex v) Q E s := by
 cases p with
 | none => exact slicePart_none h
 | int i t => exact slicePart_int h
theorem sliceApplied_gen {sl : Addr} {vl vu : Value} {lo hi : Option Int} {n : Nat} {Q : Int × Int × Nat → Shared → Prop} (hs : s.heap.IsSliceOf sl vl vu .none) (pl : IsPart vl lo) (pu : IsPart vu hi)
  (h : Q (((sIx n 0 lo : Nat) : Int), 1, sIx n n hi - sIx n 0 lo) s) : wpAny (model prog w) A (Builtin.Slice.sliceApplied (.ref sl) (pure (n : Int))) Q E s := by
 obtain ⟨os, hos, hcs, hds⟩ := id hs
 unfold Builtin.Slice.sliceApplied Builtin.Slice.sliceFields
 refine wpAny_bind (wpAny_bind (wpAny_field hos hds (x := vl) rfl (wpAny_bind (wpAny_field hos hds (x := vu) rfl (wpAny_bind (wpAny_field hos hds (x := .none) rfl (wpAny_pure ?_)))))))
 refine wpAny_bind (slicePart_none ?_)
 show wpAny _ _ (if ((1 : Int) == 0) = true then _ else _) _ _ s
 rw [if_neg (by decide)]
 refine wpAny_bind (fH pl (wpAny_bind (fH pu (wpAny_bind (wpAny_pure ?_)))))
 show wpAny _ _ (match Builtin.Slice.sliceAdjust lo hi 1 (n : Int) with | (lo, hi) => pure (lo, (1 : Int), Builtin.Slice.slicePlaces lo hi 1)) _ _ s
 rw [kI lo hi n]
 show wpAny _ _ (pure (((sIx n 0 lo : Nat) : Int), (1 : Int), Builtin.Slice.slicePlaces ((sIx n 0 lo : Nat) : Int) ((sIx n n hi : Nat) : Int) 1)) _ _ s
 rw [kJ]
 exact wpAny_pure h
theorem oQ (xs : Array Value) (i k : Nat) : ((List.range k).filterMap fun (m : Nat) => xs[((i : Int) + (m : Int) * 1).toNat]?).toArray = ((xs.toList.drop i).take k).toArray := by
 have e : (fun (m : Nat) => xs[((i : Int) + (m : Int) * 1).toNat]?) = fun m => xs[i + m]? := by
  funext m
  have : ((i : Int) + (m : Int) * 1).toNat = i + m := by omega
  rw [this]
 rw [e]
 have := pick_run xs i k
 rw [List.filterMap_map] at this
 have e2 : ((fun x => xs[x]?) ∘ fun x => i + x) = fun m => xs[i + m]? := rfl
 rw [e2] at this
 rw [this]
theorem getItem_tuple_cut {t sl : Addr} {items : Array Value} {vl vu : Value} {lo hi : Option Int} {Q : Value → Shared → Prop} (ht : IsTup s.heap t items) (hs : s.heap.IsSliceOf sl vl vu .none) (pl : IsPart vl lo) (pu : IsPart vu hi)
  (hw : ¬ (sIx items.size 0 lo = 0 ∧ sIx items.size items.size hi = items.size))
  (h : Q (.ref s.heap.objs.size) { s with heap := s.heap.push { cls := .type "tuple", data := .seq ((items.toList.drop (sIx items.size 0 lo)).take (sIx items.size items.size hi - sIx items.size 0 lo)).toArray } })
  (hsz : items.size ≤ sizeLine) : wpAny (model prog w) A (getItem (.ref t) (.ref sl)) Q E s := by
 have htake : sizeOk (.seq ((items.toList.drop (sIx items.size 0 lo)).take (sIx items.size items.size hi - sIx items.size 0 lo)).toArray) := by
  show ((items.toList.drop (sIx items.size 0 lo)).take (sIx items.size items.size hi - sIx items.size 0 lo)).toArray.size ≤ sizeLine
  rw [List.size_toArray, List.length_take, List.length_drop, Array.length_toList]
  omega
 have hj : sIx items.size items.size hi ≤ items.size := sIx_le _ _ (Nat.le_refl _) hi
 obtain ⟨os, hos, hcs, hds⟩ := id hs
 have hTs : s.TypeIs (.ref sl) "slice" := ⟨os, hos, hcs⟩
 unfold getItem
 try with_reducible refine wpAny_holding ?_
 first | refine wpAny_bind (wpAny_pure ?_) | skip
 refine wpAny_bind (wpAny_sequenceKey ht.typeIs (by decide) ?_)
 refine wpAny_bind (wpAny_callSpecial?_slot (name := Str.ofString "__getitem__") ht.typeIs PyProof.Rows.slot_tuple_getitem
  (wpAny_call_entry PyProof.Rows.slot_tuple_getitem ht.typeIs entry_tuple_getitem ?_ (args_tuple_getitem _ _)))
 show wpAny _ _ (Builtin.Tuple.tupleItemsOf (.ref t) >>= _) _ _ s
 refine wpAny_bind (tupleItemsOf_ ht ?_)
 refine wpAny_bind (wpAny_typeOf hTs ?_)
 rw [if_pos (by decide)]
 refine wpAny_bind (sliceApplied_gen hs pl pu ?_)
 have hno : ¬ ((((sIx items.size 0 lo : Nat) : Int) == 0 && (1 : Int) == 1 && (sIx items.size items.size hi - sIx items.size 0 lo) == items.size) = true) := by
  intro q
  rw [Bool.and_eq_true, Bool.and_eq_true] at q
  have q1 : ((sIx items.size 0 lo : Nat) : Int) = 0 := eq_of_beq q.1.1
  have q2 : sIx items.size items.size hi - sIx items.size 0 lo = items.size := eq_of_beq q.2
  exact hw ⟨by omega, by omega⟩
 show wpAny _ _ (if (((sIx items.size 0 lo : Nat) : Int) == 0 && (1 : Int) == 1 && (sIx items.size items.size hi - sIx items.size 0 lo) == items.size) = true then _ else _) _ _ s
 rw [if_neg hno, oQ]
 first
  | exact wpAny_bind (m := Builtin.Tuple.tupleExact _) (wpAny_newObj_type (wpAny_pure ⟨_, rfl, wpAny_pure h⟩) htake)
  | exact wpAny_bind (m := Builtin.Tuple.tupleExact _) (wpAny_newObj_type (wpAny_bind (wpAny_pure (wpAny_pure ⟨_, rfl, wpAny_pure h⟩))) htake)
  | exact wpAny_bind (wpAny_bind (m := Builtin.Tuple.tupleExact _) (wpAny_newObj_type (wpAny_pure (wpAny_pure ⟨_, rfl, wpAny_pure h⟩)) htake))
  | exact wpAny_bind (wpAny_bind (m := Builtin.Tuple.tupleExact _) (wpAny_newObj_type (wpAny_pure ⟨_, rfl, wpAny_pure h⟩) htake))
end
end HT
namespace L2
open PySem PySem.Spec PyProof.Rows
abbrev TO := St → Hp → (Option Int → Hp → Prop) → Prop
def PO (X : Cx) (e : Option Expr) (t : TO) : Prop :=
 ∀ (pins : List (Addr × Obj)) (s : Shared) (σ : St) (H : Hp) (Q : Option Int → Hp → Prop), Inv X pins σ H s → t σ H Q →
  wpAny (model X.prog X.w) X.A (evalPart e X.env) (fun u s' => ∃ o H', Inv X pins σ H' s' ∧ IsPart u o ∧ Q o H') X.xe s
def tNoPart : TO := fun _ H Q => Q none H
def tPart (t : TE) : TO := fun σ H Q => t σ H fun x H1 => ∃ i, x = .int i ∧ Q (some i) H1
section
variable {X : Cx} {e : Expr} {te : TE} {lo hi : Option Expr} {tl th : TO} {pos p2 : Pos}
theorem po_none : PO X none tNoPart := by
 intro pins s σ H Q I h
 rw [evalPart_none]
 exact wpAny_pure ⟨none, H, I, .none, h⟩
theorem po_some (h : PE X e te) : PO X (some e) (tPart te) := by
 intro pins s σ H Q I hw
 rw [evalPart_some]
 refine thn (h pins s σ H _ I hw) fun u s1 ⟨x, H1, I1, r1, q1⟩ => ?_
 obtain ⟨i, rfl, q⟩ := q1
 obtain ⟨t, rfl⟩ := r1
 exact ⟨some i, H1, I1, .int i t, q⟩
def SlR (X : Cx) (r : V → Option Int → Option Int → Hp → VK → Prop) : Prop :=
 ∀ (pins : List (Addr × Obj)) (s : Shared) (σ : St) (H : Hp) (x : V) (v vl vu : Value) (lo hi : Option Int) (sl : Addr) (Q : VK), Inv X pins σ H s → RelV x v → s.heap.IsSliceOf sl vl vu .none → IsPart vl lo → IsPart vu hi → r x lo hi H Q →
  ∃ T id, typeLookup (.type T) "__getitem__" = pure (some (.builtin id)) ∧ s.TypeIs v T ∧ wpAny (model X.prog X.w) X.A (getItem v (.ref sl)) (EP X pins σ Q) X.xe s
theorem SlR.or {r r' : V → Option Int → Option Int → Hp → VK → Prop} (h : SlR X r) (h' : SlR X r') : SlR X (fun x lo hi H Q => r x lo hi H Q ∨ r' x lo hi H Q) := by
 intro pins s σ H x v vl vu lo hi sl Q I rx hs pl pu q
 rcases q with q | q
 ·exact h pins s σ H x v vl vu lo hi sl Q I rx hs pl pu q
 ·exact h' pins s σ H x v vl vu lo hi sl Q I rx hs pl pu q
def tSl (r : V → Option Int → Option Int → Hp → VK → Prop) (te : TE) (tl th : TO) : TE := fun σ H Q => te σ H fun x H1 => tl σ H1 fun l H2 => th σ H2 fun u H3 => r x l u H3 Q
theorem oR {r : V → Option Int → Option Int → Hp → VK → Prop} (hr : SlR X r) (he : PE X e te) (hl : PO X lo tl) (hu : PO X hi th) : PE X (.Subscript e (.Slice lo hi none p2) pos) (tSl r te tl th) := by
 intro pins s σ H Q I h
 refine Subscript_ (thn (he pins s σ H _ I h) fun v s1 ⟨x, H1, I1, r1, q1⟩ => ?_)
 refine wpAny_Slice (thn (hl pins s1 σ H1 _ I1 q1) fun vl s2 ⟨l, H2, I2, pl, q2⟩ => thn (hu pins s2 σ H2 _ I2 q2) fun vu s3 ⟨u, H3, I3, pu, q3⟩ => ?_)
 rw [evalPart_none]
 refine wpAny_pure ?_
 have I4 : Inv X pins σ H3 { s3 with heap := s3.heap.push { cls := .type "slice", data := .fields #[vl, vu, .none] } } := I3.kept (t' := s3.toks) fun b ob q => Heap.get?_push_of_some _ q
 obtain ⟨T, id, hT, ht, hg⟩ := hr pins { s3 with heap := s3.heap.push { cls := .type "slice", data := .fields #[vl, vu, .none] } } σ H3 x v vl vu l u s3.heap.objs.size Q I4 r1 (Heap.IsSliceOf.new ..) pl pu q3
 show wpAny (model X.prog X.w) X.A (subscriptTail e (.Slice lo hi none p2) v (.ref s3.heap.objs.size)) (EP X pins σ Q) X.xe { s3 with heap := s3.heap.push { cls := .type "slice", data := .fields #[vl, vu, .none] } }
 exact tail_any (ops := [.ref s3.heap.objs.size, v]) ht hT hg (by with_unfolding_all rfl)
def cutV (xs : List V) (lo hi : Option Int) : List V := (xs.drop (HT.sIx xs.length 0 lo)).take (HT.sIx xs.length xs.length hi - HT.sIx xs.length 0 lo)
theorem eK (xs : List V) (lo hi : Option Int) : (cutV xs lo hi).length ≤ xs.length := by
 unfold cutV
 rw [List.length_take, List.length_drop]
 omega
def rSlT (K : PySem.W.Frag) : V → Option Int → Option Int → Hp → VK → Prop := fun x lo hi H Q => ∃ a xs, x = .ref a ∧ SqT K H a xs ∧
 ¬ (HT.sIx xs.length 0 lo = 0 ∧ HT.sIx xs.length xs.length hi = xs.length) ∧ ∀ p, H p = none → Q (.ref p) (upd H p (.tup (cutV xs lo hi)))
theorem sl_tup : SlR X (rSlT X.K) := by
 intro pins s σ H x v vl vu lo hi sl Q I rx hs pl pu h
 obtain ⟨a, xs, rfl, hx, hw, q⟩ := h
 cases rx
 obtain ⟨its, r, ht, hz⟩ := I.tuple hx
 have hlen : its.toArray.size = xs.length := by rw [List.size_toArray]; exact r.length.symm
 refine ⟨"tuple", _, PyProof.Rows.slot_tuple_getitem.lookup, ht.typeIs, ?_⟩
 refine HT.getItem_tuple_cut ht hs pl pu (by rw [hlen]; exact hw) ?_ (by rw [hlen]; exact hz)
 rw [hlen]
 refine ⟨.ref s.heap.objs.size, _, I.laid (t' := s.toks) (o := .tup (cutV xs lo hi)) (fun b ob q => Heap.get?_push_of_some _ q) (Nat.le_refl _) ?_, rfl, q _ (I.hok.fresh (Nat.le_refl _))⟩
 exact ⟨Nat.le_trans (eK xs lo hi) hz, _, (r.drop (HT.sIx xs.length 0 lo)).take (HT.sIx xs.length xs.length hi - HT.sIx xs.length 0 lo), IsTup.new _ _⟩
def rCatT (K : PySem.W.Frag) : R2 := fun x y H Q => ∃ a b xs ys, x = .ref a ∧ y = .ref b ∧ SqT K H a xs ∧ SqT K H b ys ∧ xs ≠ [] ∧ xs.length + ys.length ≤ sizeLine ∧
 (ys = [] → Q (.ref a) H) ∧ (ys ≠ [] → ∀ p, H p = none → Q (.ref p) (upd H p (.tup (xs ++ ys))))
theorem Vals.nil_iff {xs : List V} {us : List Value} (r : Vals xs us) : us = [] ↔ xs = [] := by
 cases r with
 | nil => simp
 | cons _ _ => simp
theorem op_catT : OpR X (binaryOp .Add) (rCatT X.K) := by
 intro pins s σ H x y v u Q I rx ry h
 obtain ⟨a, b, xs, ys, rfl, rfl, ha, hb, hx, hz, q1, q2⟩ := h
 cases rx
 cases ry
 obtain ⟨its, r1, p1, _⟩ := I.tuple ha
 obtain ⟨its2, r2, p2, _⟩ := I.tuple hb
 refine HT.cat_tup p1 p2 (fun z => hx (r1.nil_iff.mp z)) (fun z => ⟨.ref a, H, I, rfl, q1 (r2.nil_iff.mp z)⟩) (fun z => ?_) (by rw [← r1.length, ← r2.length]; exact hz)
 refine ⟨.ref s.heap.objs.size, _, I.laid (t' := s.toks) (o := .tup (xs ++ ys)) (fun b ob q => Heap.get?_push_of_some _ q) (Nat.le_refl _) ?_, rfl, q2 (fun w => z (r2.nil_iff.mpr w)) _ (I.hok.fresh (Nat.le_refl _))⟩
 exact ⟨by rw [List.length_append]; exact hz, _, r1.append r2, IsTup.new _ _⟩
end
end L2
namespace L2
open PySem PySem.Spec PyProof.Rows
def ixN (n : Nat) (i : Int) : Option Nat := if 0 ≤ i then (if i < n then some i.toNat else none) else if -(n : Int) ≤ i then some (i + n).toNat else none
def atI {α : Type} (xs : List α) (i : Int) : Option α := (ixN xs.length i).bind fun j => xs[j]?
theorem lU {n : Nat} {i : Int} {j : Nat} (h : ixN n i = some j) : seqIndex? i n = some j ∧ j < n ∧ -(n : Int) ≤ i ∧ i < n := by
 unfold ixN at h
 by_cases h0 : 0 ≤ i
 ·rw [if_pos h0] at h
  by_cases h1 : i < n
  ·rw [if_pos h1] at h
   have e : i.toNat = j := Option.some.inj h
   exact ⟨by rw [seqIndex_of h0 h1, e], by omega, by omega, h1⟩
  ·rw [if_neg h1] at h; cases h
 ·rw [if_neg h0] at h
  by_cases h1 : -(n : Int) ≤ i
  ·rw [if_pos h1] at h
   have e : (i + n).toNat = j := Option.some.inj h
   exact ⟨by rw [seqIndex_neg (by omega) h1, e], by omega, h1, by omega⟩
  ·rw [if_neg h1] at h; cases h
theorem lV {α : Type} {xs : List α} {i : Int} {v : α} (h : atI xs i = some v) : ∃ j, seqIndex? i xs.length = some j ∧ xs[j]? = some v ∧ j < xs.length ∧ -(xs.length : Int) ≤ i ∧ i < xs.length := by
 unfold atI at h
 cases e : ixN xs.length i with
 | none => rw [e] at h; cases h
 | some j =>
  rw [e] at h
  obtain ⟨h1, h2, h3, h4⟩ := lU e
  exact ⟨j, h1, h, h2, h3, h4⟩
theorem atI_nat {α : Type} {xs : List α} {j : Nat} {v : α} (h : xs[j]? = some v) : atI xs (j : Int) = some v := by
 have hj : j < xs.length := (List.getElem?_eq_some_iff.mp h).1
 have e : ixN xs.length (j : Int) = some j := by
  unfold ixN
  rw [if_pos (by omega), if_pos (by omega)]; simp
 unfold atI; rw [e]; exact h
def PlainIx (b : Expr) : Prop := ∀ o i, subscripted b false o i = operate [o, i] (getItem o i)
def IxR (X : Cx) (r : R2) : Prop :=
 ∀ (value slice : Expr) (pins : List (Addr × Obj)) (s : Shared) (σ : St) (H : Hp) (x y : V) (v u : Value) (Q : VK), Inv X pins σ H s → RelV x v → RelV y u → r x y H Q →
  subscripted slice false v u = operate [v, u] (getItem v u) → wpAny (model X.prog X.w) X.A (subscriptTail value slice v u) (EP X pins σ Q) X.xe s
def MtR (X : Cx) (id : String) (r : V → List V → Hp → VK → Prop) : Prop :=
 ∀ (pins : List (Addr × Obj)) (s : Shared) (σ : St) (H : Hp) (x : V) (xs : List V) (v : Value) (us : List Value) (Q : VK), Inv X pins σ H s → RelV x v → Vals xs us → r x xs H Q →
  wpAny (model X.prog X.w) X.A (call (.builtin id) (v :: us)) (EP X pins σ Q) X.xe s
section
variable {X : Cx} {a b : Expr} {ta tb : TE} {pos : Pos}
theorem IxR.or {r r' : R2} (h : IxR X r) (h' : IxR X r') : IxR X (fun x y H Q => r x y H Q ∨ r' x y H Q) := by
 intro value slice pins s σ H x y v u Q I rx ry q hs
 rcases q with q | q
 ·exact h value slice pins s σ H x y v u Q I rx ry q hs
 ·exact h' value slice pins s σ H x y v u Q I rx ry q hs
theorem pe_ix {r : R2} (hr : IxR X r) (ha : PE X a ta) (hb : PE X b tb) (hs : PlainIx b) : PE X (.Subscript a b pos) (tOp r ta tb) := by
 intro pins s σ H Q I h
 exact Subscript_ (binT ha hb I h fun v u s2 x y H2 I2 rx ry q => hr a b pins s2 σ H2 x y v u Q I2 rx ry q (hs _ _))
def rIxL (K : PySem.W.Frag) : R2 := fun x y H Q => ∃ p xs i v, x = .ref p ∧ y = .int i ∧ SqL K H p xs ∧ atI xs i = some v ∧ Q v H
def rIxT (K : PySem.W.Frag) : R2 := fun x y H Q => ∃ p xs i v, x = .ref p ∧ y = .int i ∧ SqT K H p xs ∧ atI xs i = some v ∧ Q v H
theorem ix_list : IxR X (rIxL X.K) := by
 intro value slice pins s σ H x y v u Q I rx ry h hs
 obtain ⟨p, xs, i, z, rfl, rfl, hq, he, q⟩ := h
 cases rx
 obtain ⟨t, rfl⟩ := ry
 obtain ⟨its, r, pl, hz⟩ := I.list hq
 obtain ⟨j, h1, h2, h3, h4, h5⟩ := lV he
 obtain ⟨w, ew, rw'⟩ := r.get h2
 have hl := r.length
 have hn := line63
 have fin : EP X pins σ Q w s := ⟨z, H, I, rw', q⟩
 by_cases h0 : 0 ≤ i
 ·have hj : i.toNat = j := by
   rw [seqIndex_of h0 h5] at h1
   exact Option.some.inj h1
  exact item_listR pl.isList h0 (by omega) (by rw [hj]; simpa using ew) fin hs
 ·have hj : (i + (its.toArray.size : Int)).toNat = j := by
   rw [seqIndex_neg (by omega) h4] at h1
   rw [List.size_toArray, ← hl]
   exact Option.some.inj h1
  exact subscriptTail_builtinR (x := w) pl.isList.typeIs slot_list_getitem.lookup
   (wpAny_getItem_list_neg (Q := fun r s' => r = w ∧ EP X pins σ Q r s') pl.isList (by omega) (by rw [List.size_toArray] <;> omega) (by omega) (by rw [hj]; simpa using ew) ⟨rfl, fin⟩) hs
theorem ix_tup : IxR X (rIxT X.K) := by
 intro value slice pins s σ H x y v u Q I rx ry h hs
 obtain ⟨p, xs, i, z, rfl, rfl, hq, he, q⟩ := h
 cases rx
 obtain ⟨t, rfl⟩ := ry
 obtain ⟨its, r, pl, hz⟩ := I.tuple hq
 obtain ⟨j, h1, h2, h3, h4, h5⟩ := lV he
 obtain ⟨w, ew, rw'⟩ := r.get h2
 have hl := r.length
 have hn := line63
 have fin : EP X pins σ Q w s := ⟨z, H, I, rw', q⟩
 exact subscriptTail_builtinR (x := w) pl.typeIs slot_tuple_getitem.lookup
  (getItem_tuple (j := j) (Q := fun r s' => r = w ∧ EP X pins σ Q r s') pl (by omega) (by omega) (by rw [List.size_toArray, ← hl]; exact h1) (by simpa using ew) ⟨rfl, fin⟩) hs
theorem kK (its : List Value) (n j : Nat) (u : Value) : Obj.mapSeq (·.setIfInBounds j u) { cls := .type "list", data := .seq its.toArray n } = { cls := .type "list", data := .seq (its.set j u).toArray n } := by
 simp [Obj.mapSeq]
theorem Inv.lst {pins : List (Addr × Obj)} {σ : St} {H : Hp} {s : Shared} {p : Addr} {xs : List V} (I : Inv X pins σ H s) (h : H p = some (.lst xs)) :
  ∃ (its : List Value) (n : Nat), Vals xs its ∧ s.heap.get? p = some { cls := .type "list", data := .seq its.toArray n } ∧ xs.length ≤ sizeLine := by
 obtain ⟨z, its, n, r, e⟩ := I.hok p _ h
 exact ⟨its, n, r, e, z⟩
theorem Inv.lstUpd {pins : List (Addr × Obj)} {σ : St} {H : Hp} {s : Shared} {p : Addr} {xs ys : List V} {its its' : List Value} {n n' : Nat} {f : Obj → Obj} (I : Inv X pins σ H s) (h : H p = some (.lst xs))
  (ho : s.heap.get? p = some { cls := .type "list", data := .seq its.toArray n }) (hf : f { cls := .type "list", data := .seq its.toArray n } = { cls := .type "list", data := .seq its'.toArray n' }) (r : Vals ys its') (hz : ys.length ≤ sizeLine) (t : Nat) :
  Inv X pins σ (upd H p (.lst ys)) { s with heap := s.heap.update p f, toks := t } := by
 have e : (s.heap.update p f).get? p = some { cls := .type "list", data := .seq its'.toArray n' } := by
  rw [Heap.get?_update_self f ho (by rw [hf] <;> rfl), hf]
 refine I.write (x := p) (e := p) (by rw [h]; trivial) (.inl rfl) (fun b u hb q => (Heap.get?_update_other _ _ (Ne.symm hb)).trans q) ⟨_, e⟩ ?_
 exact ⟨hz, its', n', r, e⟩
def rSetL : V → V → V → Hp → (Hp → Prop) → Prop := fun o i v H Q => ∃ p xs k j, o = .ref p ∧ i = .int k ∧ H p = some (.lst xs) ∧ ixN xs.length k = some j ∧ Q (upd H p (.lst (xs.set j v)))
theorem jG : PSet X rSetL := by
 intro pins s σ H o i v ov iv u Q I ro ri rv h
 obtain ⟨p, xs, k, j, rfl, rfl, hp, hj, q⟩ := h
 cases ro
 obtain ⟨t, rfl⟩ := ri
 obtain ⟨its, n, r, ho, hz⟩ := I.lst hp
 obtain ⟨h1, h2, h3, h4⟩ := lU hj
 have hl := r.length
 have hn := line63
 have I' : Inv X pins σ (upd H p (.lst (xs.set j v))) { s with heap := s.heap.update p (Obj.mapSeq (·.setIfInBounds j u)) } :=
  I.lstUpd hp ho (kK its n j u) (r.set rv j) (by rw [List.length_set]; exact hz) s.toks
 by_cases h0 : 0 ≤ k
 ·have hk : k.toNat = j := by
   rw [seqIndex_of h0 h4] at h1
   exact Option.some.inj h1
  exact PySem.W.ki_setAt ho h0 (by omega) (by rw [List.size_toArray, ← hl]; exact h4) (by rw [hk]; exact ⟨_, I', q⟩)
 ·have hk : (k + (its.toArray.size : Int)).toNat = j := by
   rw [seqIndex_neg (by omega) h3] at h1
   rw [List.size_toArray, ← hl]
   exact Option.some.inj h1
  exact PySem.W.ki_setBack ho (by omega) (by rw [List.size_toArray, ← hl]; exact h3) (by omega) (by rw [hk]; exact ⟨_, I', q⟩)
theorem iI (lo hi : Option Int) (n : Nat) : (sliceBounds lo hi none n).1 = ((HT.sIx n 0 lo : Nat) : Int) ∧ (sliceBounds lo hi none n).2.1 = ((HT.sIx n n hi : Nat) : Int) ∧ (sliceBounds lo hi none n).2.2 = 1 := by
 refine ⟨?_, ?_, rfl⟩
 ·cases lo with
  | none => simp [sliceBounds, HT.sIx]
  | some i =>
   simp only [sliceBounds, HT.sIx, Option.getD_none, show (1 : Int) > 0 by decide, if_true]
   by_cases h : i < 0
   ·simp only [h, if_true] <;> omega
   ·simp only [h, if_false] <;> omega
 ·cases hi with
  | none => simp [sliceBounds, HT.sIx]
  | some i =>
   simp only [sliceBounds, HT.sIx, Option.getD_none, show (1 : Int) > 0 by decide, if_true]
   by_cases h : i < 0
   ·simp only [h, if_true] <;> omega
   ·simp only [h, if_false] <;> omega
theorem gO (its : List Value) (lo hi : Option Int) : slicePick its.toArray lo hi none = ((its.drop (HT.sIx its.length 0 lo)).take (HT.sIx its.length its.length hi - HT.sIx its.length 0 lo)).toArray := by
 obtain ⟨h1, h2, h3⟩ := iI lo hi its.toArray.size
 unfold slicePick
 rw [h1, h2, h3]
 simp only [sliceRange_one, pick_run, List.size_toArray] <;> rfl
def rSlL (K : PySem.W.Frag) : V → Option Int → Option Int → Hp → VK → Prop := fun x lo hi H Q => ∃ a xs, x = .ref a ∧ SqL K H a xs ∧ ∀ p, H p = none → Q (.ref p) (upd H p (.lst (cutV xs lo hi)))
theorem sl_list : SlR X (rSlL X.K) := by
 intro pins s σ H x v vl vu lo hi sl Q I rx hs pl pu h
 obtain ⟨a, xs, rfl, hx, q⟩ := h
 cases rx
 obtain ⟨its, r, ht, hz⟩ := I.list hx
 have hlen := r.length
 refine ⟨"list", _, slot_list_getitem.lookup, ht.isList.typeIs, ?_⟩
 refine wpAny_getItem_list_slice ht.isList hs pl pu .none (by simp) ?_ (by rw [List.size_toArray] <;> omega)
 rw [gO, ← hlen]
 refine ⟨.ref s.heap.objs.size, _, I.laid (t' := s.toks) (o := .lst (cutV xs lo hi)) (fun b ob q => Heap.get?_push_of_some _ q) (Nat.le_refl _) ?_, rfl, q _ (I.hok.fresh (Nat.le_refl _))⟩
 exact ⟨Nat.le_trans (eK xs lo hi) hz, _, 0, (r.drop (HT.sIx xs.length 0 lo)).take (HT.sIx xs.length xs.length hi - HT.sIx xs.length 0 lo), Heap.get?_push_size _ rfl⟩
def flatV : V → Bool
 | .non => true
 | .bl _ => true
 | .int _ => true
 | .str _ => true
 | _ => false
def eqV : V → V → Bool
 | .non, .non => true
 | .bl a, .bl b => a == b
 | .bl a, .int b => (if a then 1 else 0) == b
 | .int a, .bl b => a == (if b then 1 else 0)
 | .int a, .int b => a == b
 | .str a, .str b => a == b
 | _, _ => false
theorem bC {A : Around} {s : Shared} {y x : V} {u v : Value} (ry : RelV y u) (rx : RelV x v) (fy : flatV y = true) (fx : flatV x = true) : SeqAt.EqAt A s u v (eqV y x) := by
 cases y with
 | non =>
  cases ry
  cases x with
  | non => cases rx; exact SeqAt.EqAt.same _
  | bl b => cases rx; exact SeqAt.EqAt.none_bool b
  | int b => obtain ⟨t, rfl⟩ := rx; exact SeqAt.EqAt.none_int b t
  | str b => obtain ⟨t, rfl⟩ := rx; exact SeqAt.EqAt.none_str b t
  | _ => exact absurd (show false = true from fx) Bool.false_ne_true
 | bl a =>
  cases ry
  cases x with
  | non => cases rx; exact SeqAt.EqAt.bool_none a
  | bl b => cases rx; exact SeqAt.EqAt.bool_bool a b
  | int b => obtain ⟨t, rfl⟩ := rx; exact SeqAt.EqAt.bool_int a b t
  | str b => obtain ⟨t, rfl⟩ := rx; exact SeqAt.EqAt.bool_str a b t
  | _ => exact absurd (show false = true from fx) Bool.false_ne_true
 | int a =>
  obtain ⟨t', rfl⟩ := ry
  cases x with
  | non => cases rx; exact SeqAt.EqAt.int_none a t'
  | bl b => cases rx; exact SeqAt.EqAt.int_bool a t' b
  | int b => obtain ⟨t, rfl⟩ := rx; exact SeqAt.EqAt.int_int a t' b t
  | str b => obtain ⟨t, rfl⟩ := rx; exact SeqAt.EqAt.int_str a t' b t
  | _ => exact absurd (show false = true from fx) Bool.false_ne_true
 | str a =>
  obtain ⟨t', rfl⟩ := ry
  cases x with
  | non => cases rx; exact SeqAt.EqAt.str_none a t'
  | bl b => cases rx; exact SeqAt.EqAt.str_bool a t' b
  | int b => obtain ⟨t, rfl⟩ := rx; exact SeqAt.EqAt.str_int a t' b t
  | str b => obtain ⟨t, rfl⟩ := rx; exact SeqAt.EqAt.str_str a t' b t
  | _ => exact absurd (show false = true from fx) Bool.false_ne_true
 | _ => exact absurd (show false = true from fy) Bool.false_ne_true
def eqU (x : V) (u : Value) : Bool := match u with
 | .none => eqV .non x
 | .bool b => eqV (.bl b) x
 | .int i _ => eqV (.int i) x
 | .str z _ => eqV (.str z) x
 | _ => false
theorem kL {x y : V} {u : Value} (r : RelV y u) (f : flatV y = true) : eqU x u = eqV y x := by
 cases y with
 | non => cases r; rfl
 | bl b => cases r; rfl
 | int i => obtain ⟨t, rfl⟩ := r; rfl
 | str z => obtain ⟨t, rfl⟩ := r; rfl
 | _ => exact absurd (show false = true from f) Bool.false_ne_true
theorem iJ {x : V} : ∀ {xs : List V} {us : List Value}, Vals xs us → xs.all flatV = true → us.any (eqU x) = xs.any fun y => eqV y x
 | _, _, .nil, _ => rfl
 | y :: xs, u :: us, .cons r t, f => by
  rw [List.all_cons, Bool.and_eq_true] at f
  rw [List.any_cons, List.any_cons, kL r f.1, iJ t f.2]
theorem dP {A : Around} {s : Shared} {x : V} {v : Value} (rx : RelV x v) (fx : flatV x = true) : ∀ {xs : List V} {us : List Value}, Vals xs us → xs.all flatV = true → ∀ u ∈ us, SeqAt.EqAt A s u v (eqU x u)
 | _, _, .nil, _ => fun u hu => by cases hu
 | y :: xs, u :: us, .cons r t, f => fun u' hu => by
  rw [List.all_cons, Bool.and_eq_true] at f
  rcases List.mem_cons.mp hu with rfl | hu
  ·rw [kL r f.1]; exact bC r rx f.1 fx
  ·exact dP rx fx t f.2 u' hu
def inV (x : V) (xs : List V) : Bool := xs.any fun y => eqV y x
def rIn (K : PySem.W.Frag) (neg : Bool) : R2 := fun x y H Q => ∃ p xs, y = .ref p ∧ (SqL K H p xs ∨ SqT K H p xs) ∧ flatV x = true ∧ xs.all flatV = true ∧ Q (.bl (if neg then !inV x xs else inV x xs)) H
theorem iK : OpR X (compareOp .NotIn) (rIn X.K true) := by
 intro pins s σ H x y v u Q I rx ry h
 obtain ⟨p, xs, rfl, hq, fx, fs, q⟩ := h
 cases ry
 rcases hq with hq | hq
 ·obtain ⟨its, r, pl, hz⟩ := I.list hq
  refine SeqAt.notIn_listAt (eqU x) pl.isList (fun w hw => dP rx fx r fs w (by simpa using hw)) ⟨.bl _, H, I, rfl, ?_⟩
  rw [show its.toArray.any (eqU x) = its.any (eqU x) by simp, iJ r fs]
  exact q
 ·obtain ⟨its, r, pl, hz⟩ := I.tuple hq
  refine SeqAt.notIn_tupleAt (eqU x) pl (fun w hw => dP rx fx r fs w (by simpa using hw)) ⟨.bl _, H, I, rfl, ?_⟩
  rw [show its.toArray.any (eqU x) = its.any (eqU x) by simp, iJ r fs]
  exact q
theorem iL : CallR X (.builtin "len") (fun xs H Q => ∃ p ys, xs = [.ref p] ∧ (SqL X.K H p ys ∨ SqT X.K H p ys) ∧ Q (.int ys.length) H) := by
 intro pins s σ H xs us Q I r h
 obtain ⟨p, ys, rfl, hq, q⟩ := h
 obtain ⟨u, rfl, rx⟩ := vals1 r
 cases rx
 have hn := line63
 rcases hq with hq | hq
 ·obtain ⟨its, r', pl, hz⟩ := I.list hq
  have hlen := r'.length
  exact Calls.call_len_list pl.isList (by simp only [List.size_toArray] <;> omega) ⟨.int ys.length, H, I.tok _, ⟨s.toks + 1, by rw [List.size_toArray, hlen]⟩, q⟩
 ·obtain ⟨its, r', pl, hz⟩ := I.tuple hq
  have hlen := r'.length
  exact len_tuple pl (by simp only [List.size_toArray] <;> omega) ⟨.int ys.length, H, I.tok _, ⟨s.toks + 1, by rw [List.size_toArray, hlen]⟩, q⟩
theorem dQ : CallR X (.type "list") (fun xs H Q => ∃ p ys, xs = [.ref p] ∧ (SqL X.K H p ys ∨ SqT X.K H p ys) ∧ ∀ l, H l = none → Q (.ref l) (upd H l (.lst ys))) := by
 intro pins s σ H xs us Q I r h
 obtain ⟨p, ys, rfl, hq, q⟩ := h
 obtain ⟨u, rfl, rx⟩ := vals1 r
 cases rx
 have fin : ∀ (its : List Value), Vals ys its → ys.length ≤ sizeLine → ∀ (h' : Heap) (c' : Nat), (∀ b o', s.heap.get? b = some o' → h'.get? b = some o') →
   h'.get? s.heap.objs.size = some { cls := .type "list", dict := none, data := .seq its.toArray c', slots := #[] } → EP X pins σ Q (.ref s.heap.objs.size) { s with heap := h' } := fun its r' hz h' c' kp e =>
  ⟨.ref s.heap.objs.size, _, I.laid (t' := s.toks) kp (Nat.le_refl _) (show ObjOk X.prog X.w _ h' _ (.lst ys) from ⟨hz, its, c', r', e⟩), rfl, q _ (I.hok.fresh (Nat.le_refl _))⟩
 rcases hq with hq | hq
 ·obtain ⟨its, r', pl, hz⟩ := I.list hq
  have hlen := r'.length
  obtain ⟨o, ho, hc, n, hd⟩ := pl.isList
  exact call_list_seq p (.inl rfl) ho hc hd (fun h' c' kp e => fin its r' hz h' c' kp e) (by simp only [List.size_toArray] <;> omega)
 ·obtain ⟨its, r', pl, hz⟩ := I.tuple hq
  have hlen := r'.length
  obtain ⟨o, ho, hc, n, hd⟩ := pl
  exact call_list_seq p (.inr rfl) ho hc hd (fun h' c' kp e => fin its r' hz h' c' kp e) (by simp only [List.size_toArray] <;> omega)
theorem gP : CallR X (.type "tuple") (fun xs H Q => ∃ p ys, xs = [.ref p] ∧ ((SqL X.K H p ys ∧ ∀ l, H l = none → Q (.ref l) (upd H l (.tup ys))) ∨ (SqT X.K H p ys ∧ Q (.ref p) H))) := by
 intro pins s σ H xs us Q I r h
 obtain ⟨p, ys, rfl, h⟩ := h
 obtain ⟨u, rfl, rx⟩ := vals1 r
 cases rx
 rcases h with ⟨hq, q⟩ | ⟨hq, q⟩
 ·obtain ⟨its, r', pl, hz⟩ := I.list hq
  have hlen := r'.length
  refine call_tuple_list pl.isList (fun h' kp => ?_) (by simp only [List.size_toArray] <;> omega)
  have I1 : Inv X pins σ H { s with heap := h' } := I.kept (t' := s.toks) kp
  have I2 : Inv X pins σ (upd H h'.objs.size (.tup ys)) { s with heap := h'.push { cls := .type "tuple", data := .seq its.toArray } } :=
   I1.laid (t' := s.toks) (fun b o e => Heap.get?_push_of_some _ e) (Nat.le_refl _) (show ObjOk X.prog X.w _ _ _ (.tup ys) from ⟨hz, its, r', IsTup.new _ _⟩)
  exact ⟨.ref h'.objs.size, _, I2, rfl, q _ (I1.hok.fresh (Nat.le_refl _))⟩
 ·obtain ⟨its, r', pl, hz⟩ := I.tuple hq
  exact call_tuple_same pl ⟨.ref p, H, I, rfl, q⟩
def tyV (K : PySem.W.Frag) (T : String) (x : V) (H : Hp) : Prop := match x with
 | .str _ => T = "str"
 | .int _ => T = "int"
 | .ref p => (T = "list" ∧ ∃ xs, SqL K H p xs) ∨ (T = "tuple" ∧ ∃ o, K.lookup p = some o ∧ o.cls = .type "tuple" ∧ o.dict = none) ∨
   (T = "dict" ∧ ((∃ kvs, H p = some (.dK kvs)) ∨ ∃ kvs, H p = some (.dT kvs))) ∨ (T = "set" ∧ ∃ S n, H p = some (.set S n))
 | _ => False
theorem tyV_is {pins : List (Addr × Obj)} {σ : St} {H : Hp} {s : Shared} {T : String} {x : V} {v : Value} (I : Inv X pins σ H s) (r : RelV x v) (ty : tyV X.K T x H) :
  s.TypeIs v T ∧ ∀ a, v = .ref a → ∃ ob, s.heap.get? a = some ob ∧ ob.dict = none := by
 cases x with
 | str z =>
  obtain ⟨t, rfl⟩ := r
  cases (show T = "str" from ty)
  exact ⟨typeIs_str s z t, fun _ e => nomatch e⟩
 | int i =>
  obtain ⟨t, rfl⟩ := r
  cases (show T = "int" from ty)
  exact ⟨typeIs_int s i t, fun _ e => nomatch e⟩
 | ref p =>
  cases r
  rcases ty with ⟨rfl, xs, hq⟩ | ⟨rfl, o, hk, hc, hd⟩ | ⟨rfl, hk⟩ | ⟨rfl, S, n, hk⟩
  ·obtain ⟨its, _, pl, _⟩ := I.list hq
   refine ⟨pl.isList.typeIs, fun a e => ?_⟩
   cases e
   obtain ⟨o, n, e, c, hd, _⟩ := pl
   exact ⟨o, e, hd⟩
  ·refine ⟨⟨o, I.kIn p o hk, hc⟩, fun a e => ?_⟩
   cases e
   exact ⟨o, I.kIn _ o hk, hd⟩
  ·have z : ∃ o, s.heap.get? p = some o ∧ o.ExactDict := by
    rcases hk with ⟨kvs, hk⟩ | ⟨kvs, hk⟩
    ·obtain ⟨_, _, _, _, o, _, _, e, ex, _⟩ := I.hok p _ hk
     exact ⟨o, e, ex⟩
    ·obtain ⟨_, _, _, _, o, _, _, e, ex, _⟩ := I.hok p _ hk
     exact ⟨o, e, ex⟩
   obtain ⟨o, e, ex⟩ := z
   refine ⟨⟨o, e, ex.1⟩, fun a e2 => ?_⟩
   cases e2
   exact ⟨o, e, ex.2.1⟩
  ·obtain ⟨o, _, _, _, e, ex, _⟩ := I.hok p _ hk
   refine ⟨⟨o, e, ex.1⟩, fun a e2 => ?_⟩
   cases e2
   exact ⟨o, e, ex.2.1⟩
 | _ => exact False.elim ty
def tBM (K : PySem.W.Frag) (T : String) (r : V → List V → Hp → VK → Prop) (to : TE) (t : TA) : TE := fun σ H Q => to σ H fun x H1 => tyV K T x H1 ∧ t σ H1 fun xs H2 => r x xs H2 Q
variable {o e : Expr} {es : List Expr} {to : TE} {t : TA} {name : Str} {apos cpos : Pos} {T id : String} {r : V → List V → Hp → VK → Prop}
theorem pe_bm (pa : PlainAttrs T) (slot : Slot T name id) (hty : typeOf (.builtin id) = pure (.type "method_descriptor")) (hm : MtR X id r) (ho : PE X o to) (ha : PA X (e :: es) t)
  (hbase : attributeBase o name X.env (eval o X.env) = eval o X.env := by rfl)
  (hfew : ((backTo cpos (starEach (e :: es) X.env)).all (fun x => !x.1) && (backToKw cpos (keywordEach [] X.env)).all (fun x => x.1.isSome)
   && decide ((e :: es).length + ([] : List Keyword).length + (if ([] : List Keyword).isEmpty then 0 else 1) < 30)) = true := by rfl)
  (hline : (apos.endLine == cpos.line) = true := by rfl) (hs : starEach (e :: es) X.env = (false, eval e X.env) :: starEach es X.env := by rfl) (hplain : (backTo cpos (starEach es X.env)).any (·.1) = false := by rfl) :
  PE X (.Call (.Attribute o name apos) (e :: es) [] cpos) (tBM X.K T r to t) := by
 intro pins s σ H Q I h
 refine wpAny_Call_method_late hbase hfew hline rfl (thn (ho pins s σ H _ I h) fun v s1 ⟨x, H1, I1, r1, ty, q1⟩ => ?_)
 obtain ⟨h1, h2⟩ := tyV_is I1 r1 ty
 refine ⟨T, id, pa, slot, hty, h1, h2, ?_⟩
 have hA := ha cpos pins s1 σ H1 _ I1 q1
 rw [hs] at hA ⊢
 refine Calls.callWith_builtin (by show (false || (backTo cpos (starEach es X.env)).any (·.1)) = false; rw [hplain] <;> rfl) (Calls.evalArgs_plain ?_)
 exact thn hA fun us s2 ⟨vs, H2, I2, r2, q2⟩ => hm pins s2 σ H2 x vs v us Q I2 r1 r2 q2
/- xs.append(e), list.index on a module's tuple .. are MtR facts of 06m -/
end
end L2
namespace L2
open PySem PySem.Spec PyProof.Rows
def MtM (X : Cx) (id : String) (r : V → List V → Hp → VK → Prop) : Prop :=
 ∀ (pins : List (Addr × Obj)) (s : Shared) (σ : St) (H : Hp) (x : V) (xs : List V) (v : Value) (us : List Value) (Q : VK), Inv X pins σ H s → RelV x v → Vals xs us → r x xs H Q →
  wpAny (model X.prog X.w) X.A (call (.builtin id) (v :: us)) (EP X pins σ Q) X.xe s
theorem Vals.one : ∀ {x : V} {us : List Value}, Vals [x] us → ∃ u, us = [u] ∧ RelV x u
 | _, _, .cons r .nil => ⟨_, rfl, r⟩
section
variable {X : Cx} {pins : List (Addr × Obj)} {σ : St} {H : Hp} {s : Shared} {l b : Addr} {xs ys zs : List V}
theorem Inv.lset {its its' : List Value} {n : Nat} {f : Array Value → Array Value} {t' : Nat} (I : Inv X pins σ H s) (hH : H l = some (.lst xs))
  (e : s.heap.get? l = some { cls := .type "list", data := .seq its.toArray n }) (hf : f its.toArray = its'.toArray) (hv : Vals ys its') (hz : ys.length ≤ sizeLine) :
  Inv X pins σ (upd H l (.lst ys)) { s with heap := s.heap.update l (Obj.mapSeq f), toks := t' } := by
 have q := PySem.IsL.update e f
 rw [hf] at q
 refine I.write (x := l) (e := l) (by rw [hH]; exact trivial) (.inl rfl) (fun b' u hb hu => (Heap.get?_update_other s.heap (Obj.mapSeq f) (Ne.symm hb)).trans hu) ⟨_, q⟩ ?_
 exact ⟨hz, its', _, hv, q⟩
theorem Inv.lnew {its : List Value} {t' : Nat} (I : Inv X pins σ H s) (hv : Vals ys its) (hz : ys.length ≤ sizeLine) :
  Inv X pins σ (upd H s.heap.objs.size (.lst ys)) { s with heap := s.heap.push { cls := .type "list", data := .seq its.toArray }, toks := t' } :=
 I.laid (fun _ _ q => Heap.get?_push_of_some _ q) (Nat.le_refl _) ⟨hz, its, 0, hv, Heap.get?_push_size _ rfl⟩
theorem Inv.fresh (I : Inv X pins σ H s) : H s.heap.objs.size = none := I.hok.fresh (Nat.le_refl _)
theorem Inv.lstM (I : Inv X pins σ H s) (hH : H l = some (.lst xs)) : xs.length ≤ sizeLine ∧ ∃ (its : List Value) (n : Nat), Vals xs its ∧ xs.length = its.length ∧ s.heap.get? l = some { cls := .type "list", data := .seq its.toArray n } := by
 obtain ⟨z, its, n, r, e⟩ := I.hok l _ hH
 exact ⟨z, its, n, r, r.length, e⟩
end
section
variable {X : Cx}
def rAppend : V → List V → Hp → VK → Prop := fun x vs H Q => ∃ l xs y, x = .ref l ∧ vs = [y] ∧ H l = some (.lst xs) ∧ xs.length < sizeLine ∧ Q .non (upd H l (.lst (xs ++ [y])))
theorem eA : MtM X "list.append" rAppend := by
 intro pins s σ H x vs v us Q I rx rv h
 obtain ⟨l, xs, y, rfl, rfl, hH, hz, q⟩ := h
 cases rx
 obtain ⟨u, rfl, ru⟩ := rv.one
 obtain ⟨z, its, n, r, hl, e⟩ := I.lstM hH
 refine call_meets F.slot_list_append ⟨_, e, rfl⟩ F.entry_list_append (F.args_list_append_2 _ _) (PySem.list_append l its.toArray n u (by rw [List.size_toArray]; omega)) ⟨e, ?_⟩
 refine ⟨.non, _, I.lset (its' := its ++ [u]) hH e (by simp) (r.append (.cons ru .nil)) ?_, rfl, q⟩
 rw [List.length_append, List.length_singleton]
 omega
def rCat : R2 := fun x y H Q => ∃ l b xs zs, x = .ref l ∧ y = .ref b ∧ H l = some (.lst xs) ∧ H b = some (.lst zs) ∧ xs.length + zs.length ≤ sizeLine ∧ ∀ p, H p = none → Q (.ref p) (upd H p (.lst (xs ++ zs)))
theorem op_cat : OpR X (binaryOp .Add) rCat := by
 intro pins s σ H x y v u Q I rx ry h
 obtain ⟨l, b, xs, zs, rfl, rfl, hH, hB, hz, q⟩ := h
 cases rx
 cases ry
 obtain ⟨z, its, n, r, hl, e⟩ := I.lstM hH
 obtain ⟨z2, its2, n2, r2, hl2, e2⟩ := I.lstM hB
 refine PySem.P.add_list e e2 ?_ (by rw [List.size_toArray, List.size_toArray]; omega)
 have ea : its.toArray ++ its2.toArray = (its ++ its2).toArray := by simp
 rw [ea]
 exact ⟨.ref _, _, I.lnew (t' := s.toks) (r.append r2) (by rw [List.length_append]; omega), rfl, q _ I.fresh⟩
end
section
variable {prog : Program} {w : World} {A : Around} {E : Value → Shared → Prop} {s : Shared}
end
section
variable {X : Cx}
end
end L2
namespace Att
open PySem PySem.W PySem.Calls PyProof.Rows
theorem eT {P : Params} {h : Heap} : ∀ (ns : List Int) (vs : List Value), WellAll P h vs (ns.map WData.int) → IntsAre vs ns := by
 intro ns
 induction ns with
 | nil =>
  intro vs w
  rw [List.map_nil] at w
  cases w
  exact .nil
 | cons n ns ih =>
  intro vs w
  rw [List.map_cons] at w
  cases w with
  | cons a b =>
   cases a
   exact .cons _ _ (ih _ b)
theorem mY {l : OpenLaw} {n : Nat} (hn : l.most = some n) {P : Params} {h : Heap} {args : List WData} {vals : List Value}
  (hpre : l.row.toRowW.claim.pre args = true) (hwl : WellAll P h vals args) :
  ∃ a vs ns, vals = [Value.ref a] ∧ args = [WData.list (ns.map WData.int)] ∧ h.get? a = some { cls := .type "list", data := .seq vs.toArray } ∧ IntsAre vs ns ∧ ns.length ≤ n := by
 have hsh : WShape.hasAll [] args [.list .int] = true := (pre_splitW hpre).1
 have hc : l.pre.holds [] { args := args } = true := (pre_splitW hpre).2
 obtain ⟨d, r, rfl, h1, h2⟩ := hasAllW_cons hsh
 obtain rfl := hasAllW_nil h2
 obtain ⟨xs, rfl, h3⟩ := hasW_list h1
 obtain ⟨ns, rfl⟩ := items_int h3
 have hlen : ns.length ≤ n := by
  unfold OpenLaw.pre at hc
  have h4 : (WTm.not (.lt (.lit (.int (n : Int))) (.len (.arg 0)))).holds [] { args := [.list (ns.map .int)] } = true := by
   have h4 := (holds_andW hc).1
   rw [hn] at h4
   exact h4
  have h5 := condW_of h4 (w_not (w_lt w_lit (w_len_list (w_arg rfl))))
  rw [List.length_map] at h5
  refine Nat.le_of_not_lt fun q => ?_
  have q' : (n : Int) < ((ns.length : Nat) : Int) := by omega
  first
   | (rw [decide_eq_true q'] at h5; exact absurd h5 (by decide))
   | (simp at h5; omega)
 cases hwl with
 | cons w1 w2 =>
  cases w2
  cases w1 with
  | list ho hall => exact ⟨_, _, ns, rfl, rfl, ho, eT ns _ hall, hlen⟩
theorem mZ (l : OpenLaw) (args : List WData) : l.row.toRowW.claim.post args (.bool true) args = true :=
 postW_of (r := l.row.toRowW) (X := (true == true))
  (show WShape.has [] (.bool true) .bool = true by first | rfl | decide | simp [WShape.has, WShape.arms, WShape.armsAll])
  (show (WTm.eq .res (.lit (.bool true))).value [] { args := args, res := some (.bool true), after := args } = some (.bool (true == true)) from w_eq_bool (w_res rfl) w_lit) rfl
theorem attach_call {l : OpenLaw} {n : Nat} {q : Program} {loose : List Str} {XP : (Str → Option Value) → Heap → Prop} {YP : World → Heap → Prop} {d : DefRec}
  (hn : l.most = some n) (hdf : d.params.defaults = [])
  (call : ∀ (w : World) (s₀ s₁ : Shared) (mg mb : Str → Option Value) (fa : Addr) (o : Obj) (pm cd doc : Value) (a : Addr) (vs : List Value) (ns : List Int),
   Ground q loose [] XP w s₀ mg mb s₁.heap → YP w s₁.heap →
   s₁.heap.get? fa = some o → o.data = .func (docDef d.name d.params d.body d.scope pm cd doc) → s₁.heap.CodeRec cd d.name → mg d.name = some (.ref fa) →
   s₁.heap.get? a = some { cls := .type "list", data := .seq vs.toArray } → IntsAre vs ns → ns.length ≤ n → s₁.gens = #[] →
   codeAny (model l.prog w) callerA (.call (.ref fa) ⟨[.ref a], []⟩) (fun r s' => r = .ok (.ret (.bool true)) ∧ OldK s₁.heap s'.heap ∧ s'.os = s₁.os ∧ AllBare s'.gens) s₁) :
  WalkO q loose XP YP l.row.toRowW d [] (fun f vs => PySem.call f vs) := by
 intro w s₀ s₁ mg mb G Y fa o pm cd doc dV kV ho hd hcd hD hmg hg args vals as hpre hlay hrd hwl hlo
 obtain rfl : dV = .none := Dflts.none hD hdf
 obtain rfl : kV = .none := Dflts.noKw hD
 obtain ⟨a, vs, ns, rfl, rfl, hobj, hints, hlen⟩ := mY hn hpre hwl
 refine enter_call (codeAny_mono (call w s₀ s₁ mg mb fa o pm cd doc a vs ns G Y ho (fd_plain hd) hcd hmg hobj hints hlen hg) fun r s' hq => ?_)
 obtain ⟨rfl, h2, h3, h4⟩ := hq
 exact ⟨.inl ⟨.bool true, .bool true, [], rfl, fun _ => rfl, .bool true, mZ l _, fun _ => ⟨List.Pairwise.nil, fun _ hm => (nomatch hm)⟩⟩, h2, h3, h4⟩
section
variable {prog : Program} {w : World} {A : Around} {E : Value → Shared → Prop} {s : Shared} {K : Frag}
end
end Att
namespace L2
open PySem PySem.Spec PyProof.Rows
theorem g5 : ∀ {vs : List Value} {ns : List Int}, IntsAre vs ns → Vals (ns.map V.int) vs
 | _, _, .nil => .nil
 | _, _, .cons n t h => .cons ⟨t, rfl⟩ (g5 h)
def Only (H : Hp) : Prop := ∀ b, H b = none ∨ ∃ o xs, H b = some (.frz o (.lst xs))
end L2
namespace L2
open PySem PySem.Spec PyProof.Rows
end L2
/- THE LAST THEOREM (shape; LID, My.* are yours):
  My.Adr: a structure of the addresses that your layer names (classes, functions); My.Txt K t: a structure (Prop) of the equations over K;
  My.txt_mk : {K} {implicit addresses ..} (e1 : nsIn K mainGlobals "law" = some (some (.ref f))) (e2 : K.lookup f = some ⟨oc, od, .func (fnOf "law" "law" params body scope dV kV doc pm an cdv ct), sl⟩) (e3 : codeIn K cdv "law" = true) .. : ∃ t, My.Txt K t
(the tactic k_is has no namespace: write k_is) -/
namespace L2
open PySem PySem.Spec PyProof.Rows
def defArgs (s : Stmt) : Arguments := match s with
 | .FunctionDef _ a _ _ _ _ _ _ _ _ => a
 | _ => { posonlyargs := [], args := [], vararg := none, kwonlyargs := [], kw_defaults := [], kwarg := none, defaults := [] }
def defBody (s : Stmt) : List Stmt := match s with
 | .FunctionDef _ _ b _ _ _ _ _ _ _ => b
 | _ => []
def defScope (s : Stmt) : Scope := match s with
 | .FunctionDef _ _ _ _ _ _ sc _ _ _ => sc
 | _ => { kind := .function, names := [], isGenerator := false, isCoroutine := false }
structure Fun (K : PySem.W.Frag) (x qual : Str) (st : Stmt) (f : Addr) (fd : FuncData) : Prop where
 ex : ∃ (oc : Value) (od : Option Addr) (kV doc pm : Value) (an : Option Addr) (cdv ct : Value) (osl : Array (Option Value)),
  fd = PySem.W.fnOf x qual (defArgs st) (defBody st) (defScope st) .none kV doc pm an cdv ct ∧ K.lookup f = some ⟨oc, od, .func fd, osl⟩ ∧ PySem.W.codeIn K cdv qual = true
 kp : PySem.W.keepIn K (.ref f) = true
section
variable {P : Program} {w : World} {K : PySem.W.Frag} {mg : Str → Option Value} {base : Heap}
theorem Fun.binds {x qual : Str} {st : Stmt} {f : Addr} {fd : FuncData} {ps : List Str} (F : Fun K x qual st f fd)
  (h : ∀ (kV doc pm : Value) (an : Option Addr) (cdv ct : Value) (us : List Value), us.length = ps.length → bindArgs (PySem.W.fnOf x qual (defArgs st) (defBody st) (defScope st) .none kV doc pm an cdv ct) ⟨us, []⟩ = pure (ps.zip us)) : Binds K fd ps [] := by
 obtain ⟨oc, od, kV, doc, pm, an, cdv, ct, osl, rfl, lk, hcd⟩ := F.ex
 exact .all (h kV doc pm an cdv ct)
theorem aV {x qual : Str} {st : Stmt} {f : Addr} {oc : Value} {od an : Option Addr} {osl : Array (Option Value)} {kV doc pm cdv ct : Value} (l : K.lookup f = some ⟨oc, od, .func (PySem.W.fnOf x qual (defArgs st) (defBody st) (defScope st) .none kV doc pm an cdv ct), osl⟩)
  (c : PySem.W.codeIn K cdv qual = true) (k : PySem.W.keepIn K (.ref f) = true) : Fun K x qual st f (PySem.W.fnOf x qual (defArgs st) (defBody st) (defScope st) .none kV doc pm an cdv ct) := ⟨⟨oc, od, kV, doc, pm, an, cdv, ct, osl, rfl, l, c⟩, k⟩
end
section
variable {X : Cx}
end
def Same (H H' : Hp) : Prop := ∀ b o, H b = some o → H' b = some o
theorem Same.refl (H : Hp) : Same H H := fun _ _ h => h
theorem Same.trans {H H1 H2 : Hp} (a : Same H H1) (b : Same H1 H2) : Same H H2 := fun c o h => b c o (a c o h)
theorem Same.free {H H' : Hp} (e : Same H H') {l : Addr} (h : H' l = Option.none) : H l = Option.none := by
 cases q : H l with
 | none => rfl
 | some o =>
  rw [e l o q] at h
  cases h
section
variable {κ : Type} [DecidableEq κ]
end
end L2
namespace L2
open PySem PySem.Spec PyProof.Rows
theorem dR {prog : Program} {w : World} {A : Around} {R : Result → Shared → Prop} {s : Shared} {elt target iter : Expr} {ifs : List Expr} {scope : Scope} {pos : Pos} {it acc : Value} {env : Env} (I : Nat → Shared → Prop)
  (turn : ∀ n s, I n s → wpAny (model prog w) A (pyNext it) (fun r s₁ => match r with
   | none => R (.ok .next) s₁
   | some v => wpAny (model prog w) A (letOwnedTupleGo target it v) (fun _ s₀ => wpAny (model prog w) A (assign target env v) (fun _ s₂ =>
     wpAny (model prog w) A (forIn ifs true fun c r => if r = true then do let ok ← isTrue c env (eval c env); pure (ForInStep.yield ok) else pure (ForInStep.yield r)) (fun ok s₃ =>
      if ok = true then wpAny (model prog w) A (eval elt env) (fun x s₄ =>
       wpAny (model prog w) A (call (.builtin "list.append") [acc, x]) (fun _ s₅ => ∃ m, m < n ∧ I m s₅) (notedBy (model prog w) A env fun e s' => R (.error e) s') s₄) (notedBy (model prog w) A env fun e s' => R (.error e) s') s₃
      else ∃ m, m < n ∧ I m s₃) (notedBy (model prog w) A env fun e s' => R (.error e) s') s₂) (notedBy (model prog w) A env fun e s' => R (.error e) s') s₀) (notedBy (model prog w) A env fun e s' => R (.error e) s') s₁) (notedBy (model prog w) A env fun e s' => R (.error e) s') s)
  (n : Nat) (h : I n s) :
  codeAny (model prog w) A (.compLoop (.ListComp elt [⟨target, iter, ifs, 0⟩] scope pos) 0 it acc env) R s := by
 refine codeAny_loop rfl I (fun n s hI => ?_) n h
 show wpAny _ A ((compTurn (.ListComp elt [⟨target, iter, ifs, 0⟩] scope pos) 0 it acc env).onRaise (fun x => do noteFrame x env; theTreesLotGoes x)) _ _ s
 refine wpAny_noted ?_
 rw [compTurn_list]
 refine wpAny_bind (wpAny_standAt (wpAny_bind (wpAny_mono (turn n s hI) (fun r s₁ h₁ => ?_) fun _ _ h' => h')))
 cases r with
 | none => exact wpAny_pure h₁
 | some v =>
  refine wpAny_bind (wpAny_mono h₁ (fun _ s₀ h₀ => ?_) fun _ _ h' => h')
  refine wpAny_bind (wpAny_mono h₀ (fun _ s₂ h₂ => wpAny_bind (wpAny_mono h₂ (fun ok s₃ h₃ => ?_) fun _ _ h' => h')) fun _ _ h' => h')
  cases ok with
  | false => exact wpAny_pure ⟨rfl, h₃⟩
  | true =>
   exact wpAny_bind (wpAny_bind (wpAny_mono h₃ (fun x s₄ h₄ => wpAny_bind (wpAny_mono h₄ (fun _ s₅ h₅ => wpAny_pure (wpAny_pure ⟨rfl, h₅⟩)) fun _ _ h' => h')) fun _ _ h' => h'))
def capS (σ : St) (caps : List Nat) (ntg : Nat) : St := List.replicate ntg none ++ caps.map fun j => (σ[j]?).getD none
def cxComp (X : Cx) (N' : List Str) (scope : Scope) (cl : List (Str × Addr)) (C : Addr) (s : Shared) (H : Hp) (fp : List Addr) (E : Value → Shared → Prop) : Cx where
 prog := X.prog
 w := X.w
 K := X.K
 mg := X.mg
 base := X.base
 A := X.A
 N := N'
 s₀ := s
 H₀ := H
 env := compEnvC scope cl C X.env
 outer := X.stack
 stack := X.stack
 ex := fp
 fn := fun _ => false
 calm := X.calm
 pn := []
 xe := E
structure CompSc (X : Cx) (N' : List Str) (caps : List Nat) (ntg : Nat) (scope : Scope) : Prop where
 kind : scope.kind = .function
 ncell : ∀ y ∈ scope.names, y.2 ≠ .cell
 loc : ∀ y ∈ scope.names, y.2 = .local → scope.names.lookup y.1 = some .local
 fre : ∀ y ∈ scope.names, y.2 = .free → X.env.kindOf y.1 = some .cell ∨ X.env.kindOf y.1 = some .free
 len : N'.length = ntg + caps.length
 cap : ∀ (i j : Nat) (x : Str), caps[i]? = some j → N'[ntg + i]? = some x → X.N[j]? = some x ∧ scope.names.lookup x = some .free
theorem bZ {env : Env} : ∀ {names : List (Str × NameKind)} {x : Str} {k : NameKind},
  (names.map fun (n, k) => if (k == NameKind.free && env.scope.kind == .function && env.kindOf n == some .cell) then (n, NameKind.cell) else (n, k)).lookup x = some k →
  ∃ k', names.lookup x = some k' ∧ (k = k' ∨ (k' = .free ∧ k = .cell))
 | [], _, _, h => by simp at h
 | (n, k0) :: r, x, k, h => by
  have ih := @bZ env r x k
  have h' : List.lookup x ((if (k0 == NameKind.free && env.scope.kind == .function && env.kindOf n == some .cell) = true then (n, NameKind.cell) else (n, k0)) :: (r.map fun (n, k) => if (k == NameKind.free && env.scope.kind == .function && env.kindOf n == some .cell) then (n, NameKind.cell) else (n, k))) = some k := h
  cases hx : x == n with
  | true =>
   refine ⟨k0, by simp only [List.lookup_cons, hx], ?_⟩
   by_cases hc : (k0 == NameKind.free && env.scope.kind == .function && env.kindOf n == some .cell) = true
   ·rw [if_pos hc] at h'
    simp only [List.lookup_cons, hx] at h'
    cases h'
    refine .inr ⟨?_, rfl⟩
    simp only [Bool.and_eq_true, beq_iff_eq] at hc
    exact hc.1.1
   ·rw [if_neg hc] at h'
    simp only [List.lookup_cons, hx] at h'
    cases h'
    exact .inl rfl
  | false =>
   have e : List.lookup x (r.map fun (n, k) => if (k == NameKind.free && env.scope.kind == .function && env.kindOf n == some .cell) then (n, NameKind.cell) else (n, k)) = some k := by
    by_cases hc : (k0 == NameKind.free && env.scope.kind == .function && env.kindOf n == some .cell) = true
    ·rw [if_pos hc] at h'; simpa only [List.lookup_cons, hx] using h'
    ·rw [if_neg hc] at h'; simpa only [List.lookup_cons, hx] using h'
   obtain ⟨k', e1, e2⟩ := ih e
   exact ⟨k', by simp only [List.lookup_cons, hx]; exact e1, e2⟩
theorem bS {env : Env} : ∀ {names : List (Str × NameKind)} {x : Str}, names.lookup x = some .free →
  (names.map fun (n, k) => if (k == NameKind.free && env.scope.kind == .function && env.kindOf n == some .cell) then (n, NameKind.cell) else (n, k)).lookup x = some .cell ∨
  (names.map fun (n, k) => if (k == NameKind.free && env.scope.kind == .function && env.kindOf n == some .cell) then (n, NameKind.cell) else (n, k)).lookup x = some .free
 | [], _, h => by simp at h
 | (n, k0) :: r, x, h => by
  have ih := @bS env r x
  show List.lookup x ((if (k0 == NameKind.free && env.scope.kind == .function && env.kindOf n == some .cell) = true then (n, NameKind.cell) else (n, k0)) :: _) = _ ∨ List.lookup x ((if (k0 == NameKind.free && env.scope.kind == .function && env.kindOf n == some .cell) = true then (n, NameKind.cell) else (n, k0)) :: _) = _
  cases hx : x == n with
  | true =>
   simp only [List.lookup_cons, hx] at h
   cases h
   by_cases hc : (NameKind.free == NameKind.free && env.scope.kind == .function && env.kindOf n == some .cell) = true
   ·rw [if_pos hc]; exact .inl (by simp only [List.lookup_cons, hx])
   ·rw [if_neg hc]; exact .inr (by simp only [List.lookup_cons, hx])
  | false =>
   simp only [List.lookup_cons, hx] at h
   by_cases hc : (k0 == NameKind.free && env.scope.kind == .function && env.kindOf n == some .cell) = true
   ·rw [if_pos hc]; simp only [List.lookup_cons, hx]; exact ih h
   ·rw [if_neg hc]; simp only [List.lookup_cons, hx]; exact ih h
theorem dE {env : Env} : ∀ (names : List (Str × NameKind)) (cs : List (Str × Addr)), (∀ y ∈ names, y.2 = .free → ∃ c, env.cells.lookup y.1 = some c) →
  ∃ cl, (forIn names cs fun (x : Str × NameKind) (r : List (Str × Addr)) => (do
    if (x.2 == NameKind.free) = true then (do let a ← cellOf env x.1; pure (ForInStep.yield ((x.1, a) :: r))) else pure (ForInStep.yield r) : Sem (ForInStep (List (Str × Addr))))) = pure cl ∧
   (∀ x c, cl.lookup x = some c → cs.lookup x = some c ∨ env.cells.lookup x = some c) ∧ (∀ x, (x, NameKind.free) ∈ names → ∃ c, cl.lookup x = some c) ∧ (∀ x c, cs.lookup x = some c → ∃ c', cl.lookup x = some c')
 | [], cs, _ => ⟨cs, rfl, fun x c h => .inl h, fun x h => by simp at h, fun x c h => ⟨c, h⟩⟩
 | (n, k) :: r, cs, h => by
  rw [List.forIn_cons]
  by_cases hk : k = .free
  ·subst hk
   obtain ⟨a, ha⟩ := h (n, .free) List.mem_cons_self rfl
   obtain ⟨cl, e, p1, p2, p3⟩ := dE r ((n, a) :: cs) fun y hy => h y (List.mem_cons_of_mem _ hy)
   refine ⟨cl, ?_, fun x c hc => ?_, fun x hx => ?_, fun x c hc => ?_⟩
   ·have e1 : cellOf env n = pure a := by unfold cellOf; rw [ha]
    simp only [beq_self_eq_true, if_true, e1, pure_bind]
    exact e
   ·rcases p1 x c hc with q | q
    ·by_cases hx : x == n
     ·simp only [List.lookup_cons, hx] at q
      cases q
      have : x = n := by simpa using hx
      subst this
      exact .inr ha
     ·simp only [List.lookup_cons, hx] at q
      exact .inl q
    ·exact .inr q
   ·rcases List.mem_cons.mp hx with q | q
    ·cases q
     exact p3 n a (by simp [List.lookup_cons])
    ·exact p2 x q
   ·by_cases hx : x == n
    ·exact p3 x a (by simp only [List.lookup_cons, hx])
    ·exact p3 x c (by simp only [List.lookup_cons, hx]; exact hc)
  ·obtain ⟨cl, e, p1, p2, p3⟩ := dE r cs fun y hy => h y (List.mem_cons_of_mem _ hy)
   refine ⟨cl, ?_, p1, fun x hx => ?_, p3⟩
   ·have hb : (k == NameKind.free) = false := by simpa using hk
    simp only [hb, Bool.false_eq_true, if_false, pure_bind]
    exact e
   ·rcases List.mem_cons.mp hx with q | q
    ·cases q; exact absurd rfl hk
    ·exact p2 x q
theorem dF {X : Cx} {N' : List Str} {caps : List Nat} {ntg : Nat} {scope : Scope} (ok : X.Ok) (Sc : CompSc X N' caps ntg scope) :
  ∃ cl, closureFor scope X.env = pure cl ∧ (∀ x c, cl.lookup x = some c → X.env.cells.lookup x = some c) ∧ ∀ x, (x, NameKind.free) ∈ scope.names → ∃ c, cl.lookup x = some c := by
 obtain ⟨cl, e, p1, p2, _⟩ := dE (env := X.env) scope.names [] fun y hy hf => ok.has y.1 (Sc.fre y hy hf)
 refine ⟨cl, ?_, fun x c hc => (p1 x c hc).resolve_left (by simp), p2⟩
 exact Eq.trans (congrArg (· >>= fun cs => pure cs) e) rfl
end L2
namespace L2
open PySem PySem.Spec PyProof.Rows
def PTs (X : Cx) (ifs : List Expr) (t : TT) : Prop :=
 ∀ (pins : List (Addr × Obj)) (s : Shared) (σ : St) (H : Hp) (Q : Bool → Hp → Prop), Inv X pins σ H s → t σ H Q →
  wpAny (model X.prog X.w) X.A (forIn ifs true fun c r => if r = true then do let ok ← isTrue c X.env (eval c X.env); pure (ForInStep.yield ok) else pure (ForInStep.yield r)) (TP X pins σ Q) X.xe s
theorem lW {X : Cx} : PTs X [] (fun σ H Q => Q true H) := fun _ _ _ H _ I h => wpAny_tests_nil ⟨H, I, h⟩
theorem pts_one {X : Cx} {c : Expr} {t : TT} (h : PT X c t) : PTs X [c] t := fun pins s σ H Q I q => wpAny_tests_one (h pins s σ H Q I q)
def tCompL (J : It) (g : TG) (tc : TT) (te : TE) (Q : Hp → Prop) (σ0 : St) (p : Addr) (H0 : Hp) : Prop :=
 ∃ W : Nat → Nat → St → Hp → Prop, (∃ m, W 0 m σ0 H0) ∧ ∀ i m σ H, W i m σ H →
  (J.stop i H ∧ Q H) ∨ (J.go i H ∧ ∀ x H', J.yld i H x H' → g x σ H' fun σ2 H2 => tc σ2 H2 fun b H3 =>
   if b = true then te σ2 H3 fun v H4 => ∃ ys m', H4 p = some (.lst ys) ∧ ys.length < sizeLine ∧ m' < m ∧ W (i + 1) m' σ2 (upd H4 p (.lst (ys ++ [v])))
   else ∃ m', m' < m ∧ W (i + 1) m' σ2 H3)
def tComp (wi : TI) (g : TG) (tc : TT) (te : TE) (caps : List Nat) (ntg : Nat) : TE := fun σ H Q =>
 wi σ H fun J H1 => ∀ p, H1 p = none → tCompL J g tc te (fun H' => Q (.ref p) H') (capS σ caps ntg) p (upd H1 p (.lst []))
section
variable {X : Cx} {N' : List Str} {caps : List Nat} {ntg : Nat} {scope : Scope} {pins : List (Addr × Obj)} {σ : St} {H2 : Hp} {s2 : Shared}
theorem oS {i : Nat} {v : V} (h : (capS σ caps ntg)[i]? = some (some v)) : ∃ k j, i = ntg + k ∧ caps[k]? = some j ∧ σ[j]? = some (some v) := by
 unfold capS at h
 by_cases hi : i < ntg
 ·rw [List.getElem?_append_left (by simpa using hi), List.getElem?_replicate, if_pos hi] at h
  cases h
 ·rw [List.getElem?_append_right (by simpa using hi), List.length_replicate, List.getElem?_map] at h
  cases e : caps[i - ntg]? with
  | none => rw [e] at h; cases h
  | some j =>
   rw [e] at h
   refine ⟨i - ntg, j, by omega, e, ?_⟩
   have h' : (σ[j]?).getD none = some v := by simpa using h
   cases q : σ[j]? with
   | none => rw [q] at h'; cases h'
   | some o => rw [q] at h'; simp at h'; rw [h']
theorem fI {it : Addr} {fp : List Addr} {cl : List (Str × Addr)} {p : Addr} {s3 : Shared} {h1 : Heap} {tk : Nat} {tn : Nat → Heap → Prop} {tg : Expr} {J : It} {E : Value → Shared → Prop}
  (I2 : Inv X pins σ H2 s2) (Sc : CompSc X N' caps ntg scope)
  (hin : ∀ x c, cl.lookup x = some c → X.env.cells.lookup x = some c) (hall : ∀ x, (x, NameKind.free) ∈ scope.names → ∃ c, cl.lookup x = some c)
  (T : Turn X.prog X.w X.K tg J fp it tn) (t2 : tn 0 s2.heap) (f2 : ∀ b ∈ fp, FpOk X pins H2 b)
  (hp : p = s2.heap.objs.size) (hs3 : s3 = { s2 with heap := s2.heap.push { cls := .type "list", dict := none, data := .seq ([] : List Value).toArray } })
  (k1 : ∀ b o, s3.heap.get? b = some o → h1.get? b = some o) {m : Str → Option Value} (hns : h1.Ns s3.heap.objs.size m) :
  Inv (cxComp X N' scope cl s3.heap.objs.size s3 (upd H2 p (.lst [])) fp E) [] (capS σ caps ntg) (upd H2 p (.lst [])) { s3 with heap := h1, toks := tk } := by
 have I3 : Inv X pins σ (upd H2 p (.lst [])) s3 := by
  subst hp hs3
  exact I2.lnew (ys := []) (its := []) (t' := s2.toks) .nil (Nat.zero_le _)
 have sz : s3.heap.objs.size = s2.heap.objs.size + 1 := by subst hs3; exact Heap.size_push ..
 have fresh3 : upd H2 p (.lst []) s3.heap.objs.size = none := I3.hok.fresh (Nat.le_refl _)
 have inC : ∀ b o, s3.heap.get? b = some o → b ≠ s3.heap.objs.size := fun b o e => Nat.ne_of_lt (Heap.lt_size e)
 have k0 : ∀ b o, s2.heap.get? b = some o → s3.heap.get? b = some o := fun b o e => by subst hs3; exact Heap.get?_push_of_some _ e
 have fpo : ∀ b ∈ fp, ∃ o, s2.heap.get? b = some o ∧ ∀ v, o.data ≠ .cell v := T.obj _ _ t2
 have fpp : ∀ b ∈ fp, b ≠ p := fun b hb => by
  obtain ⟨o, e, _⟩ := fpo b hb
  subst hp; exact Nat.ne_of_lt (Heap.lt_size e)
 refine ⟨⟨I3.ok.mod, Sc.kind, I3.ok.glob, I3.ok.blt, Nat.le_refl _, fun x y c e1 e2 => I3.ok.inj x y c (hin _ _ e1) (hin _ _ e2), fun x hx => ?_, fun x c e _ => absurd e Bool.false_ne_true, I3.ok.hd, I3.ok.frames, .inl rfl, fun b hb => ⟨?_, fun x c e => ?_⟩,
  I3.bs, Nat.le_trans I3.ok.bsz I3.sz, fun b o e hb => ?_, fun b hb hf => ?_, I3.stack, I3.stkFree⟩, rfl, I3.bare, Un.kept k1, ⟨m, hns, fun i x v e1 e2 e3 => ?_⟩, fun x c e => ?_, fresh3, fun x c e => ?_, fun q hq => absurd (show q ∈ ([] : List (Addr × Obj)) from hq) (by simp), I3.hok.kept k1, ?_⟩
 ·-- every name of the block that is a cell or free has its cell
  have hx' : (relabel scope X.env).names.lookup x = some .cell ∨ (relabel scope X.env).names.lookup x = some .free := hx
  have key : scope.names.lookup x = some .free := by
   rcases hx' with q | q
   ·obtain ⟨k', e1, e2⟩ := bZ (env := X.env) (names := scope.names) q
    rcases e2 with e2 | ⟨e2, _⟩
    ·subst e2
     exact absurd rfl (Sc.ncell _ (PySem.mem_of_lookup e1))
    ·rw [e2] at e1; exact e1
   ·obtain ⟨k', e1, e2⟩ := bZ (env := X.env) (names := scope.names) q
    rcases e2 with e2 | ⟨e2, e3⟩
    ·subst e2; exact e1
    ·cases e3
  exact hall x (PySem.mem_of_lookup key)
 ·obtain ⟨o, e, _⟩ := fpo b hb
  exact inC b o (k0 b o e)
 ·exact (f2 b hb).2.2.2.2.1 x c (hin x c e)
 ·obtain ⟨_, _, _, h4, _⟩ := f2 b hb
  rcases h4 with h4 | h4
  ·exact I2.ok.noex b o e h4
  ·exact absurd (Nat.lt_of_lt_of_le (Heap.lt_size e) (Nat.le_trans I2.ok.bsz h4)) (Nat.lt_irrefl _)
 ·obtain ⟨_, h2, h3, _⟩ := f2 b hb
  rcases List.mem_cons.mp (I3.stkSub b hf) with z | z
  ·exact h2 z
  ·exact h3 z
 ·obtain ⟨k, j, rfl, ej, ev⟩ := oS e2
  obtain ⟨n1, n2⟩ := Sc.cap k j x ej e1
  have hfr : X.env.kindOf x = some .cell ∨ X.env.kindOf x = some .free := Sc.fre _ (PySem.mem_of_lookup n2) rfl
  obtain ⟨m0, hn0, hl0⟩ := I3.loc
  obtain ⟨u, ru, lk⟩ := hl0 j x v n1 ev (.inr hfr)
  refine ⟨u, ru, .inr ⟨bS n2, ?_⟩⟩
  obtain ⟨c, ec⟩ := hall x (PySem.mem_of_lookup n2)
  refine ⟨c, ec, ?_⟩
  rcases lk with ⟨kl, _⟩ | ⟨_, c', ec', q⟩
  ·rcases hfr with z | z <;> (rw [kl] at z; cases z)
  ·have : c' = c := Option.some.inj (ec'.symm.trans (hin x c ec))
   subst this
   obtain ⟨o, ho, hd⟩ := q
   exact ⟨o, k1 _ o ho, hd⟩
 ·obtain ⟨v, o, ho, hd⟩ := I3.cell x c (hin x c e)
  exact ⟨v, o, k1 _ o ho, hd⟩
 ·exact I3.freeC x c (hin x c e)
 ·unfold capS
  show _ = N'.length
  rw [List.length_append, List.length_replicate, List.length_map, Sc.len]
theorem lX {elt iter tg : Expr} {ifs : List Expr} {pos : Pos} {it : Addr} {fp : List Addr} {cl : List (Str × Addr)} {tn : Nat → Heap → Prop} {J : It} {g : TG} {tc : TT} {te : TE} {Q : Addr → Hp → Prop} {RR : Value → Addr → Result → Shared → Prop}
  (hc : X.calm = true) (I2 : Inv X pins σ H2 s2) (Sc : CompSc X N' caps ntg scope)
  (hin : ∀ x c, cl.lookup x = some c → X.env.cells.lookup x = some c) (hall : ∀ x, (x, NameKind.free) ∈ scope.names → ∃ c, cl.lookup x = some c)
  (T : Turn X.prog X.w X.K tg J fp it tn) (t2 : tn 0 s2.heap) (f2 : ∀ b ∈ fp, FpOk X pins H2 b)
  (hg : ∀ C s H, PG (cxComp X N' scope cl C s H fp fun _ _ => False) tg g) (ht : ∀ C s H, PTs (cxComp X N' scope cl C s H fp fun _ _ => False) ifs tc) (he : ∀ C s H, PE (cxComp X N' scope cl C s H fp fun _ _ => False) elt te)
  (q : ∀ p, H2 p = none → tCompL J g tc te (Q p) (capS σ caps ntg) p (upd H2 p (.lst [])))
  (hR : ∀ p C s' H' m, Inv X pins σ H' s' → H2 p = none → s'.heap.Ns C m → H' C = none → s2.heap.objs.size < C → Q p H' → RR (.ref p) C (.ok .next) s') :
  wpAny (model X.prog X.w) X.A (newList []) (fun acc s₃ => wpAny (model X.prog X.w) X.A (newFunctionEnv scope X.env.globals cl [] X.env.qual none .none (some X.env)) (fun cenv s₄ =>
   codeAny (model X.prog X.w) X.A (.compStart (.ListComp elt [⟨tg, iter, ifs, 0⟩] scope pos) 0 (.ref it) acc { cenv with scope := relabel scope X.env }) (RR acc cenv.locals) s₄) X.xe s₃) X.xe s2 := by
 refine wpAny_newObj_type (wpAny_newFunctionEnv Sc.ncell (by intro y hy; simp at hy) (fun h₁ hns₁ hsb₁ => ?_) Sc.kind)
 dsimp only at hns₁ hsb₁ ⊢
 generalize hs3 : ({ s2 with heap := s2.heap.push { cls := .type "list", dict := none, data := .seq ([] : List Value).toArray } } : Shared) = s3
 have e3 : s2.heap.push { cls := .type "list", dict := none, data := .seq ([] : List Value).toArray } = s3.heap := by rw [← hs3]
 rw [e3] at hns₁ hsb₁ ⊢
 have k1 : ∀ b o, s3.heap.get? b = some o → h₁.get? b = some o := fun b o e => hsb₁.extBut b o (Nat.ne_of_lt (Heap.lt_size e)) (Heap.get?_push_of_some _ e)
 have k0 : ∀ b o, s2.heap.get? b = some o → s3.heap.get? b = some o := fun b o e => by rw [← e3]; exact Heap.get?_push_of_some _ e
 have sz : s3.heap.objs.size = s2.heap.objs.size + 1 := by rw [← e3]; exact Heap.size_push ..
 have os3 : s3.os = s2.os := by rw [← hs3]
 have hp0 : H2 s2.heap.objs.size = none := I2.hok.fresh (Nat.le_refl _)
 have IC := fI (E := fun _ _ => False) (tk := s2.toks + ([] : List (Str × Value)).length) (h1 := h₁) I2 Sc hin hall T t2 f2 rfl hs3.symm k1 hns₁
 have est : ({ s2 with heap := h₁, toks := s2.toks + ([] : List (Str × Value)).length } : Shared) = { s3 with heap := h₁, toks := s2.toks + ([] : List (Str × Value)).length } := by rw [← hs3]
 rw [est]
 have T1 : tn 0 h₁ := T.keep _ _ _ t2 fun b _ o e => k1 b o (k0 b o e)
 obtain ⟨W, ⟨m0, w0⟩, turn⟩ := q _ hp0
 have I3 : Inv X pins σ (upd H2 s2.heap.objs.size (.lst [])) s3 := by
  rw [← hs3]
  exact I2.lnew (ys := []) (its := []) (t' := s2.toks) .nil (Nat.zero_le _)
 have fp3 : ∀ b ∈ fp, upd H2 s2.heap.objs.size (.lst []) b = none := fun b hb => by
  obtain ⟨o, e, _⟩ := T.obj _ _ t2 b hb
  rw [aL (Nat.ne_of_lt (Heap.lt_size e))]
  exact (f2 b hb).1
 have fpC : ∀ b ∈ fp, b ≠ s3.heap.objs.size := fun b hb => by
  obtain ⟨o, e, _⟩ := T.obj _ _ t2 b hb
  exact Nat.ne_of_lt (Heap.lt_size (k0 b o e))
 have stat : ∀ {H' : Hp}, (∀ b ∈ fp, H' b = none) → ∀ b ∈ fp, FpOk (cxComp X N' scope cl s3.heap.objs.size s3 (upd H2 s2.heap.objs.size (.lst [])) fp fun _ _ => False) [] H' b := fun hn b hb =>
  ⟨hn b hb, fpC b hb, fun z => by
   rcases List.mem_cons.mp (I3.stkSub b z) with y | y
   ·exact (f2 b hb).2.1 y
   ·exact (f2 b hb).2.2.1 y, .inl hb, fun x c e => (f2 b hb).2.2.2.2.1 x c (hin x c e), fun p hp => absurd (show p ∈ ([] : List (Addr × Obj)) from hp) (by simp)⟩
 have loop : codeAny (model X.prog X.w) X.A (.compLoop (.ListComp elt [⟨tg, iter, ifs, 0⟩] scope pos) 0 (.ref it) (.ref s2.heap.objs.size) (compEnvC scope cl s3.heap.objs.size X.env)) (RR (.ref s2.heap.objs.size) s3.heap.objs.size)
   { s3 with heap := h₁, toks := s2.toks + ([] : List (Str × Value)).length } := by
  refine dR (fun n s' => ∃ i σ' H', Inv (cxComp X N' scope cl s3.heap.objs.size s3 (upd H2 s2.heap.objs.size (.lst [])) fp fun _ _ => False) [] σ' H' s' ∧ tn i s'.heap ∧ (∀ b ∈ fp, H' b = none) ∧ W i n σ' H') ?_ m0 ⟨0, _, _, IC, T1, fp3, w0⟩
  rintro n s4 ⟨i, σ4, H4, I4, st4, fr4, w4⟩
  rcases turn i n σ4 H4 w4 with ⟨stop, qn⟩ | ⟨go, step⟩
  ·refine wpAny_mono (T.done (cxComp X N' scope cl s3.heap.objs.size s3 (upd H2 s2.heap.objs.size (.lst [])) fp fun _ _ => False) rfl rfl rfl hc i [] s4 σ4 H4 (fun _ _ => False) I4 (stat fr4) st4 stop) (fun r s5 ⟨hr, I5⟩ => ?_) fun _ _ z => False.elim z
   subst hr
   obtain ⟨mm, hm, _⟩ := I5.loc
   have u1 : Un (frs X.stack) fp H2 (upd H2 s2.heap.objs.size (.lst [])) s2.heap s3.heap := by
    rw [← e3]
    exact Un.laid (fun b u e => Heap.get?_push_of_some _ e) (Nat.le_refl _) hp0
   have u2 : Un (frs X.stack) fp H2 H4 s2.heap s5.heap := u1.trans I5.base
   have I6 : Inv X pins σ H4 s5 := I2.call' (ch := fp) (I5.os.trans os3) u2 I5.hok I5.bare fun b hb => ⟨(f2 b hb).2.2.2.1, (f2 b hb).2.1, (f2 b hb).2.2.2.2.1, (f2 b hb).2.2.2.2.2⟩
   exact hR _ _ s5 H4 mm I6 hp0 hm I5.free (by rw [sz]; exact Nat.lt_succ_self _) qn
  ·refine wpAny_mono (T.item (cxComp X N' scope cl s3.heap.objs.size s3 (upd H2 s2.heap.objs.size (.lst [])) fp fun _ _ => False) rfl rfl rfl hc i [] s4 σ4 H4 (fun _ _ => False) I4 (stat fr4) st4 go) (fun r s5 ⟨u, hr, h5⟩ => ?_) fun _ _ z => False.elim z
   subst hr
   refine wpAny_mono h5 (fun _ s6 ⟨x, H6, I6, r6, y6, st6, fr6⟩ => ?_) fun _ _ z => False.elim z
   have I6' := I6.pinned (stat fr6) (T.obj _ _ st6)
   have keepIt : ∀ {σ7 : St} {H7 : Hp} {s7 : Shared}, Inv (cxComp X N' scope cl s3.heap.objs.size s3 (upd H2 s2.heap.objs.size (.lst [])) fp fun _ _ => False) ([] ++ pinsAt fp s6.heap) σ7 H7 s7 → tn (i + 1) s7.heap ∧ ∀ b ∈ fp, H7 b = none := fun {σ7 H7 s7} I7 =>
    ⟨T.keep _ _ _ st6 fun b hb o e => (I7.pin (b, o) (List.mem_append_right _ (List.mem_append_right _ (bK hb e)))).1, fun b hb => by
     obtain ⟨o, e, d⟩ := T.obj _ _ st6 b hb
     exact (I7.pin (b, o) (List.mem_append_right _ (List.mem_append_right _ (bK hb e)))).2.1⟩
   refine wpAny_mono (hg _ _ _ _ s6 σ4 H6 x u _ I6' r6 (step x H6 y6)) (fun _ s7 ⟨σ7, H7, I7, q7⟩ => ?_) fun _ _ z => False.elim z
   refine wpAny_mono (ht _ _ _ _ s7 σ7 H7 _ I7 q7) (fun b s8 ⟨H8, I8, q8⟩ => ?_) fun _ _ z => False.elim z
   cases b with
   | true =>
    rw [if_pos rfl] at q8 ⊢
    refine wpAny_mono (he _ _ _ _ s8 σ7 H8 _ I8 q8) (fun v s9 ⟨y, H9, I9, r9, ys, m', hl, hz, hm, w9⟩ => ?_) fun _ _ z => False.elim z
    refine wpAny_mono (eA (X := (cxComp X N' scope cl s3.heap.objs.size s3 (upd H2 s2.heap.objs.size (.lst [])) fp fun _ _ => False)) _ s9 σ7 H9 (.ref s2.heap.objs.size) [y] (.ref s2.heap.objs.size) [v] (fun _ H => W (i + 1) m' σ7 H) I9 rfl (.cons r9 .nil) ⟨_, ys, y, rfl, rfl, hl, hz, w9⟩) (fun _ s10 ⟨_, H10, I10, _, w10⟩ => ?_) fun _ _ z => False.elim z
    exact ⟨m', hm, i + 1, σ7, H10, I10.unpinned, (keepIt I10).1, (keepIt I10).2, w10⟩
   | false =>
    rw [if_neg Bool.false_ne_true] at q8 ⊢
    obtain ⟨m', hm, w8⟩ := q8
    exact ⟨m', hm, i + 1, σ7, H8, I8.unpinned, (keepIt I8).1, (keepIt I8).2, w8⟩
 exact codeAny_compStart_list loop (T.self _ _ _ _ _ T1 loop)
theorem pe_comp {elt iter tg : Expr} {ifs : List Expr} {pos : Pos} {wi : TI} {g : TG} {tc : TT} {te : TE} (hc : X.calm = true) (hi : PI X tg iter wi) (Sc : CompSc X N' caps ntg scope)
  (hg : ∀ cl C s H fp, PG (cxComp X N' scope cl C s H fp fun _ _ => False) tg g) (ht : ∀ cl C s H fp, PTs (cxComp X N' scope cl C s H fp fun _ _ => False) ifs tc) (he : ∀ cl C s H fp, PE (cxComp X N' scope cl C s H fp fun _ _ => False) elt te)
  (hs : ∀ x, foldedSetIterable iter X.env x = pure x) : PE X (.ListComp elt [⟨tg, iter, ifs, 0⟩] scope pos) (tComp wi g tc te caps ntg) := by
 intro pins s σ H Q I h
 rw [eval_ListComp]
 obtain ⟨cl, hcl, hin, hall⟩ := dF I.ok Sc
 refine wpAny_comprehension_free (use := none) rfl hs hcl Sc.kind Sc.loc (thn (hi pins s σ H _ I h) fun v s1 h1 => thn h1 fun itv s2 h2 => ?_)
 obtain ⟨it, fp, tn, J, H2, rfl, I2, T, t2, f2, q2⟩ := h2
 refine lX (RR := fun acc C => compPost (model X.prog X.w) X.A X.xe none (EP X pins σ Q) acc C) (Q := fun p H' => Q (.ref p) H') hc I2 Sc hin hall T t2 f2 (fun C s H => hg cl C s H fp) (fun C s H => ht cl C s H fp) (fun C s H => he cl C s H fp) q2 ?_
 intro p C s' H' m I' hp hm hC hlt hq
 refine ⟨m, hm, fun h' sb => ⟨.ref p, H', ?_, rfl, hq⟩⟩
 refine I'.turned (t' := s'.toks) (it := C) (fun b o hb e => sb.extBut b o hb e) hC (Nat.ne_of_gt (Nat.lt_trans I2.lt hlt)) (.inr (Nat.le_of_lt (Nat.lt_of_le_of_lt I2.sz hlt))) (fun x c e z => ?_) fun q hq z => ?_
 ·obtain ⟨v, w⟩ := I2.cell x c e
  exact absurd (Nat.lt_trans w.lt (by rw [z]; exact hlt)) (Nat.lt_irrefl _)
 ·exact absurd (Nat.lt_trans (Heap.lt_size (I2.pin q hq).1) (by rw [z]; exact hlt)) (Nat.lt_irrefl _)
theorem jH {i : Nat} {y : Str} {py spos : Pos} {elt iter tg : Expr} {ifs : List Expr} {pos : Pos} {wi : TI} {g : TG} {tc : TT} {te : TE} (hN : X.N.Nodup) (hy : X.N[i]? = some y) (hx : Loc X.env.scope y)
  (hf : X.fn y = true ∨ X.env.scope.names.lookup y = some .local)
  (hsw : swapsWith (.ListComp elt [⟨tg, iter, ifs, 0⟩] scope pos) (some (.Name y py)) spos.line X.env = pure true)
  (hc : X.calm = true) (hi : PI X tg iter wi) (Sc : CompSc X N' caps ntg scope)
  (hg : ∀ cl C s H fp, PG (cxComp X N' scope cl C s H fp fun _ _ => False) tg g) (ht : ∀ cl C s H fp, PTs (cxComp X N' scope cl C s H fp fun _ _ => False) ifs tc) (he : ∀ cl C s H fp, PE (cxComp X N' scope cl C s H fp fun _ _ => False) elt te)
  (hs : ∀ x, foldedSetIterable iter X.env x = pure x) : PS X (.Assign [.Name y py] (.ListComp elt [⟨tg, iter, ifs, 0⟩] scope pos) spos) (tAsg (tComp wi g tc te caps ntg) (gName i)) := by
 intro pins s σ H D I h
 rw [exec_Assign_Name_used _ _ _ _ hsw]
 refine wpAny_bind (wpAny_standAt (wpAny_bind ?_))
 show wpAny _ X.A (do let _ ← comprehension (.ListComp elt [⟨tg, iter, ifs, 0⟩] scope pos) scope X.env _ (newList []) false (eval iter X.env) (some (assign (.Name y py) X.env))) _ _ s
 obtain ⟨cl, hcl, hin, hall⟩ := dF I.ok Sc
 refine wpAny_bind (wpAny_mono (wpAny_comprehension_free (use := some (assign (.Name y py) X.env)) (Q := fun _ s' => SP X pins D .next s') rfl hs hcl Sc.kind Sc.loc
  (thn (hi pins s σ H _ I h) fun v s1 h1 => thn h1 fun itv s2 h2 => ?_)) (fun _ s' hq => wpAny_pure (wpAny_pure hq)) fun _ _ e => e)
 obtain ⟨it, fp, tn, J, H2, rfl, I2, T, t2, f2, q2⟩ := h2
 refine lX (RR := fun acc C => compPost (model X.prog X.w) X.A X.xe (some (assign (.Name y py) X.env)) (fun _ s' => SP X pins D .next s') acc C) (Q := fun p H' => D.nx (σ.set i (some (.ref p))) H') hc I2 Sc hin hall T t2 f2
  (fun C s H => hg cl C s H fp) (fun C s H => ht cl C s H fp) (fun C s H => he cl C s H fp) q2 ?_
 intro p C s' H' m I' hp hm hC hlt hq
 have hLC : C ≠ X.env.locals := Nat.ne_of_gt (Nat.lt_trans I2.lt hlt)
 have hCc : ∀ x c, X.env.cells.lookup x = some c → c ≠ C := fun x c e z => by
  obtain ⟨v, w⟩ := I2.cell x c e
  exact absurd (Nat.lt_trans w.lt (by rw [z]; exact hlt)) (Nat.lt_irrefl _)
 have hCp : ∀ q ∈ X.pn ++ pins, q.1 ≠ C := fun q hq z => absurd (Nat.lt_trans (Heap.lt_size (I2.pin q hq).1) (by rw [z]; exact hlt)) (Nat.lt_irrefl _)
 have hCs : X.s₀.heap.objs.size ≤ C := Nat.le_of_lt (Nat.lt_of_le_of_lt I2.sz hlt)
 obtain ⟨oC, es, ep, ho, hd, r⟩ := id hm
 have I'' : Inv X (pins ++ [(C, oC)]) σ H' s' := I'.pins_of fun q hq => by
  rcases List.mem_append.mp hq with z | z
  ·exact I'.pin q (List.mem_append_right _ z)
  ·have : q = (C, oC) := by simpa using z
   subst this
   exact ⟨ho, hC, hLC, I2.nofs (Nat.le_of_lt hlt), fun v z => by rw [hd] at z; cases z⟩
 show wpAny _ X.A (assign (.Name y py) X.env (.ref p)) _ _ s'
 refine thn (dL hN hy hx hf (pins ++ [(C, oC)]) s' σ H' (.ref p) (.ref p) _ I'' rfl hq) fun _ s8 ⟨σ8, H8, I8, q8⟩ => ?_
 have hC8 := (I8.pin (C, oC) (List.mem_append_right _ (List.mem_append_right _ (by simp))))
 refine ⟨m, ⟨oC, es, ep, hC8.1, hd, r⟩, fun h' sb => ⟨σ8, H8, ?_, q8⟩⟩
 exact (I8.unpinned).turned (t' := s8.toks) (it := C) (fun b o hb e => sb.extBut b o hb e) hC8.2.1 hLC (.inr hCs) hCc hCp
end
end L2
namespace PySem
open Sem (wp)
open AutoSeq1 (wpAny_loadPart')
section
variable {prog : Program} {w : World} {A : Around} {E : Value → Shared → Prop} {s : Shared}
end
end PySem
namespace L2
open PySem PySem.Spec PyProof.Rows
end L2
namespace L2
open PySem PySem.Spec PyProof.Rows
theorem oU {prog : Program} {w : World} {A : Around} {E : Value → Shared → Prop} {s : Shared} {t b : Addr} {ws : List Value} {Q : Value → Shared → Prop} (ht : IsTup s.heap t ([] : List Value).toArray) (hb : IsTup s.heap b ws.toArray)
  (h : Q (.ref b) s) : wpAny (model prog w) A (binaryOp .Add (.ref t) (.ref b)) Q E s := by
 obtain ⟨⟨cls, dd, data, sl⟩, ho, hc, n, hd⟩ := id ht
 obtain ⟨⟨cls2, dd2, data2, sl2⟩, ho2, hc2, n2, hd2⟩ := id hb
 simp only at hc hd hc2 hd2
 subst hc hd hc2 hd2
 exact concat_meets ⟨_, ho, rfl⟩ ⟨_, ho2, rfl⟩ noFill_tuple_add seq_tuple_add PySem.F.slot_tuple_add PySem.F.entry_tuple_add (PySem.F.args_tuple_add_2 _ _)
   (tuple_addW0 t b ([] : List Value).toArray ws.toArray n n2 dd dd2 sl sl2 (by simp)) ⟨ho, ho2, h⟩
def rCatTW (K : PySem.W.Frag) : R2 := fun x y H Q => ∃ a b xs ys, x = .ref a ∧ y = .ref b ∧ SqT K H a xs ∧ SqT K H b ys ∧ xs.length + ys.length ≤ sizeLine ∧
 (xs = [] → Q (.ref b) H) ∧ (xs ≠ [] → ys = [] → Q (.ref a) H) ∧ (xs ≠ [] → ys ≠ [] → ∀ p, H p = none → Q (.ref p) (upd H p (.tup (xs ++ ys))))
theorem oV {X : Cx} : OpR X (binaryOp .Add) (rCatTW X.K) := by
 intro pins s σ H x y v u Q I rx ry h
 obtain ⟨a, b, xs, ys, rfl, rfl, ha, hb, hz, q0, q1, q2⟩ := h
 by_cases hx : xs = []
 ·cases rx
  cases ry
  obtain ⟨its, r1, p1, _⟩ := I.tuple ha
  obtain ⟨its2, r2, p2, _⟩ := I.tuple hb
  have e : its = [] := r1.nil_iff.mpr hx
  subst e
  exact oU p1 p2 ⟨.ref b, H, I, rfl, q0 hx⟩
 ·exact op_catT pins s σ H (.ref a) (.ref b) v u Q I rx ry ⟨a, b, xs, ys, rfl, rfl, ha, hb, hx, hz, q1 hx, q2 hx⟩
theorem dS {prog : Program} {w : World} {A : Around} {E : Value → Shared → Prop} {s : Shared} {t sl : Addr} {items : Array Value} {vl vu : Value} {lo hi : Option Int} {Q : Value → Shared → Prop}
  (ht : IsTup s.heap t items) (hs : s.heap.IsSliceOf sl vl vu .none) (pl : IsPart vl lo) (pu : IsPart vu hi)
  (hw : HT.sIx items.size 0 lo = 0 ∧ HT.sIx items.size items.size hi = items.size) (h : Q (.ref t) s) : wpAny (model prog w) A (getItem (.ref t) (.ref sl)) Q E s := by
 obtain ⟨os, hos, hcs, hds⟩ := id hs
 have hTs : s.TypeIs (.ref sl) "slice" := ⟨os, hos, hcs⟩
 unfold getItem
 try with_reducible refine wpAny_holding ?_
 first | refine wpAny_bind (wpAny_pure ?_) | skip
 refine wpAny_bind (wpAny_sequenceKey ht.typeIs (by decide) ?_)
 refine wpAny_bind (wpAny_callSpecial?_slot (name := Str.ofString "__getitem__") ht.typeIs PyProof.Rows.slot_tuple_getitem
  (wpAny_call_entry PyProof.Rows.slot_tuple_getitem ht.typeIs PyProof.Rows.entry_tuple_getitem ?_ (PyProof.Rows.args_tuple_getitem _ _)))
 show wpAny _ _ (Builtin.Tuple.tupleItemsOf (.ref t) >>= _) _ _ s
 refine wpAny_bind (PyProof.Rows.tupleItemsOf_ ht ?_)
 refine wpAny_bind (wpAny_typeOf hTs ?_)
 rw [if_pos (by decide)]
 refine wpAny_bind (HT.sliceApplied_gen hs pl pu ?_)
 have hyes : (((HT.sIx items.size 0 lo : Nat) : Int) == 0 && (1 : Int) == 1 && (HT.sIx items.size items.size hi - HT.sIx items.size 0 lo) == items.size) = true := by
  rw [hw.1, hw.2]; simp
 show wpAny _ _ (if (((HT.sIx items.size 0 lo : Nat) : Int) == 0 && (1 : Int) == 1 && (HT.sIx items.size items.size hi - HT.sIx items.size 0 lo) == items.size) = true then _ else _) _ _ s
 rw [if_pos hyes]
 obtain ⟨o, ho, hc, n, hd⟩ := ht
 have hT : s.TypeIs (.ref t) "tuple" := ⟨o, ho, hc⟩
 unfold Builtin.Tuple.tupleIsExact
 refine wpAny_bind (wpAny_bind (wpAny_typeOf hT (wpAny_pure ?_)))
 rw [if_pos (by simp)]
 exact wpAny_bind (wpAny_rule (wpAny_pure ⟨_, rfl, wpAny_pure h⟩))
def rSlTW (K : PySem.W.Frag) : V → Option Int → Option Int → Hp → VK → Prop := fun x lo hi H Q => ∃ a xs, x = .ref a ∧ SqT K H a xs ∧
 (HT.sIx xs.length 0 lo = 0 ∧ HT.sIx xs.length xs.length hi = xs.length) ∧ Q (.ref a) H
theorem sl_tupW {X : Cx} : SlR X (rSlTW X.K) := by
 intro pins s σ H x v vl vu lo hi sl Q I rx hs pl pu h
 obtain ⟨a, xs, rfl, hx, hw, q⟩ := h
 cases rx
 obtain ⟨its, r, ht, hz⟩ := I.tuple hx
 have hlen : its.toArray.size = xs.length := by rw [List.size_toArray]; exact r.length.symm
 refine ⟨"tuple", _, PyProof.Rows.slot_tuple_getitem.lookup, ht.typeIs, ?_⟩
 exact dS ht hs pl pu (by rw [hlen]; exact hw) ⟨.ref a, H, I, rfl, q⟩
theorem Vals.getElem {xs : List V} {us : List Value} (r : Vals xs us) {i : Nat} (h : i < us.length) : ∃ x, xs[i]? = some x ∧ RelV x us[i] := by
 have h' : i < xs.length := by rw [r.length]; exact h
 obtain ⟨u, hu, ru⟩ := r.get (i := i) (x := xs[i]) (by simp [h'])
 have : us[i] = u := by simpa [h] using hu
 exact ⟨xs[i], by simp [h'], by rw [this]; exact ru⟩
def rIndex : V → List V → Hp → VK → Prop := fun x vs H Q => ∃ (l : Addr) (xs : List V) (y : V) (j : Nat) (z : V), x = .ref l ∧ vs = [y] ∧ H l = some (.lst xs) ∧ flatV y = true ∧ xs.all flatV = true ∧ xs[j]? = some z ∧ eqV z y = true ∧ (∀ (k : Nat) z', k < j → xs[k]? = some z' → eqV z' y = false) ∧ Q (.int j) H
theorem oW {X : Cx} : MtR X "list.index" rIndex := by
 intro pins s σ H x vs v us Q I rx rv h
 obtain ⟨l, xs, y, j, z, rfl, rfl, hH, fy, fs, hj, ez, hno, q⟩ := h
 cases rx
 obtain ⟨u, rfl, ru⟩ := rv.one
 obtain ⟨zz, its, n, r, hl, e⟩ := I.lstM hH
 have hjl : j < its.length := by
  rw [← hl]
  by_cases hc : j < xs.length
  ·exact hc
  ·rw [List.getElem?_eq_none (by omega)] at hj; cases hj
 have hn := line63
 have at' : ∀ k (hk : k < its.toArray.size), ∃ w, xs[k]? = some w ∧ eqU y its.toArray[k] = eqV w y := fun k hk => by
  have hk' : k < its.length := by simpa using hk
  obtain ⟨w, hw, rw'⟩ := r.getElem hk'
  refine ⟨w, hw, ?_⟩
  have hm : w ∈ xs := List.mem_of_getElem? hw
  have := kL (x := y) rw' (List.all_eq_true.mp fs w hm)
  simpa using this
 refine call_meets F.slot_list_index ⟨_, e, rfl⟩ F.entry_list_index (F.args_list_index_2 _ _) (SeqAt.list_indexAt l its.toArray n none #[] u (eqU y) j (by simpa using hjl) (by omega) ?_ ?_) ⟨e, ?_, ?_⟩
 ·obtain ⟨w, hw, ew⟩ := at' j (by simpa using hjl)
  rw [hj] at hw; cases hw
  rw [ew]; exact ez
 ·intro k hk hkj
  obtain ⟨w, hw, ew⟩ := at' k hk
  rw [ew]; exact hno k w hkj hw
 ·intro w hw
  exact dP ru fy r fs w (by simpa using hw)
 ·exact ⟨.int j, H, I.tok _, ⟨_, rfl⟩, q⟩
end L2
namespace L2
open PySem PySem.Spec PyProof.Rows
def Fly (Nw : Addr → Prop) (h : Heap) (H : Hp) (e : Addr) (cls : Value) : Prop :=
 Nw e ∧ H e = none ∧ ∃ oe vs, h.get? e = some oe ∧ (oe.cls = cls ∧ oe.dict = none) ∧ oe.data = .fields vs ∧
  (vs[1]? = some .none ∨ ∃ T oT ts, vs[1]? = some (.ref T) ∧ Nw T ∧ H T = none ∧ T ≠ e ∧ h.get? T = some oT ∧ oT.data = .fields ts ∧ ts[3]? = some .none)
theorem Fly.mono {N N' : Addr → Prop} {h : Heap} {H : Hp} {e : Addr} {cls : Value} (F : Fly N h H e cls) (s : ∀ b, N b → N' b) : Fly N' h H e cls := by
 obtain ⟨n, he, oe, vs, h1, h2, h3, h4⟩ := F
 refine ⟨s _ n, he, oe, vs, h1, h2, h3, h4.imp id ?_⟩
 rintro ⟨T, oT, ts, a, b, r⟩
 exact ⟨T, oT, ts, a, s _ b, r⟩
theorem jI (f : Array Value → Array Value) (o : Obj) : (Obj.mapFields f o).dict = o.dict := by obtain ⟨c, d, dt, sl⟩ := o; cases dt <;> rfl
section
variable {M : Model} {A : Around} {E : Value → Shared → Prop} {s : Shared}
theorem eB {bs : Heap} {env : Env} {outer : List Env} {L e : Addr} {oe : Obj} {vs : Array Value} {head : Value} {hn : Bool} {Q : Unit → Shared → Prop} (hfr : A.frames = some (env :: outer)) (hl : s.heap.FunFrames bs (env :: outer)) (hf : env.frame = some L)
  (he : s.heap.get? e = some oe) (hd : oe.data = .fields vs) (hsz : 1 < vs.size)
  (k : ∀ h' T oe' vs' oT ts, s.heap.get? T = none → (∀ b o, s.heap.get? b = some o → b ∉ frs (env :: outer) → b ≠ e → h'.get? b = some o) → (∀ b o, s.heap.get? b = some o → b ∈ frs (env :: outer) → ∃ sl, h'.get? b = some { o with slots := sl }) →
   h'.get? e = some oe' → (oe'.cls = oe.cls ∧ oe'.dict = oe.dict) → oe'.data = .fields vs' → vs'[1]? = some (.ref T) → T ≠ e → h'.get? T = some oT → oT.data = .fields ts → ts[3]? = some .none → Q () { s with heap := h' }) :
  wpAny M A (do let a ← frameOf env; let pl ← entryPlaceOf L hn; let b ← EntryCells.newEntry head a .none (rawInt L) .none pl; setField (.ref e) 1 b) (fun _ s' => wpAny M A (setFlight (.ref e) none) Q E s') E s := by
 have ne : e ∉ frs (env :: outer) := fun hm => by
  obtain ⟨_, o, ho, nf⟩ := hl.mem hm
  rw [he] at ho; cases ho
  exact nf vs hd
 refine wpAny_bind (wpAny_frameOf_fun hfr hl hf fun h1 s1 => ?_)
 refine wpAny_bind (wpAny_entryPlaceOf fun pl hpl => ?_)
 unfold EntryCells.newEntry newFields
 refine wpAny_bind (wpAny_newObj_type ?_ (hpl.sizeOk5 _ _ _ _ _))
 have e1 : h1.get? e = some oe := (s1.2.1 e ne).trans he
 generalize hts : ([head, .ref L, .none, rawInt L, .none] ++ (if pl.isEmpty then List.replicate 6 Value.none else pl)).toArray = ts
 have tsz : 3 < ts.size := by rw [← hts]; simp only [List.size_toArray, List.length_append, List.length_cons, List.length_nil]; omega
 have fresh : s.heap.get? h1.objs.size = none := by
  cases q : s.heap.get? h1.objs.size with
  | none => rfl
  | some o => have := Heap.lt_size q; rw [s1.1] at this; exact absurd this (Nat.lt_irrefl _)
 have e2 := Heap.get?_push_of_some (h := h1) { cls := .type "traceback", dict := none, data := .fields ts } e1
 refine wpAny_setField e2 hd hsz ?_
 have nT : h1.objs.size ≠ e := Nat.ne_of_gt (Heap.lt_size e1)
 have d3 := Obj.data_mapFields hd (·.setIfInBounds 1 (Value.ref h1.objs.size))
 have e3 := Heap.get?_update_self (Obj.mapFields (·.setIfInBounds 1 (Value.ref h1.objs.size))) e2 (Obj.isFreed_of_fields d3)
 have t3 := (Heap.get?_update_other (h1.push { cls := .type "traceback", dict := none, data := .fields ts }) (Obj.mapFields (·.setIfInBounds 1 (Value.ref h1.objs.size))) (Ne.symm nT)).trans (Heap.get?_push_size h1 rfl)
 unfold setFlight
 refine wpAny_bind (wpAny_field e3 d3 (x := .ref h1.objs.size) (by simp [hsz]) ?_)
 rw [if_pos (show (Value.ref h1.objs.size != Value.none) = true from by simp)]
 refine wpAny_setField t3 rfl tsz (k _ h1.objs.size _ _ _ _ fresh (fun b o hb nb nbe => ?_) (fun b o hb mb => ?_) ?_ ⟨Obj.cls_mapFields _ _, jI _ _⟩ d3 (by simp [hsz]) nT (Heap.get?_update_self _ t3 (Obj.isFreed_of_fields (Obj.data_mapFields rfl _))) (Obj.data_mapFields rfl _) (by simp [tsz]))
 ·have hb1 : h1.get? b = some o := (s1.2.1 b nb).trans hb
  rw [Heap.get?_update_other _ _ (Nat.ne_of_gt (Heap.lt_size hb1)), Heap.get?_update_other _ _ (Ne.symm nbe)]
  exact Heap.get?_push_of_some _ hb1
 ·obtain ⟨sl, hb1⟩ := s1.2.2 b o hb
  refine ⟨sl, ?_⟩
  rw [Heap.get?_update_other _ _ (Nat.ne_of_gt (Heap.lt_size hb1)), Heap.get?_update_other _ _ (fun z => ne (by rw [z]; exact mb))]
  exact Heap.get?_push_of_some _ hb1
 ·rw [Heap.get?_update_other _ _ nT]; exact e3
structure Noted (fs ch : List Addr) (h h' : Heap) : Prop where
 keep : ∀ b o, h.get? b = some o → b ∉ fs → b ∉ ch → h'.get? b = some o
 slot : ∀ b o, h.get? b = some o → b ∈ fs → ∃ sl, h'.get? b = some { o with slots := sl }
 there : ∀ b o, h.get? b = some o → ∃ o', h'.get? b = some o'
def Recs (Nw : Addr → Prop) (h : Heap) (H : Hp) (ch : List Addr) : Prop := ∀ b ∈ ch, Nw b ∧ H b = none ∧ ∃ o ws, h.get? b = some o ∧ o.data = .fields ws
theorem jJ {bs : Heap} {env : Env} {outer : List Env} {L e : Addr} {cls : Value} {Nw : Addr → Prop} {H : Hp} {Q : Unit → Shared → Prop} (hfr : A.frames = some (env :: outer)) (hl : s.heap.FunFrames bs (env :: outer)) (hf : env.frame = some L)
  (F : Fly Nw s.heap H e cls) (hN : ∀ b, s.heap.get? b = none → Nw b) (hH : ∀ b, s.heap.get? b = none → H b = none)
  (k : ∀ h' ch, Recs Nw s.heap H ch → Fly Nw h' H e cls → Noted (frs (env :: outer)) ch s.heap h' → Q () { s with heap := h' }) :
  wpAny M A (noteFrame (.ref e) env) (fun _ s' => wpAny M A (setFlight (.ref e) none) Q E s') E s := by
 obtain ⟨n, he0, oe, vs, he, ⟨hc, hdn⟩, hd, tr⟩ := F
 subst hc
 unfold noteFrame
 simp only [hf]
 rcases tr with h1 | ⟨T, oT, ts, h1, nT, hT0, hTe, hT, hdT, h3⟩
 ·refine wpAny_bind (wpAny_field he hd h1 ?_)
  rw [if_neg (by decide)]
  refine eB hfr hl hf he hd (Array.getElem?_eq_some_iff.mp h1).1 fun h' T oe' vs' oT ts nT kp sl a1 a2 a3 a4 a5 a6 a7 a8 => ?_
  refine k h' [e] (fun b hb => by rw [List.mem_singleton.mp hb]; exact ⟨n, he0, oe, vs, he, hd⟩) ⟨n, he0, oe', vs', a1, ⟨a2.1, a2.2.trans hdn⟩, a3, .inr ⟨T, oT, ts, a4, hN T nT, hH T nT, a5, a6, a7, a8⟩⟩ ⟨fun b o hb nb c => kp b o hb nb fun z => c (by simp [z]), sl, fun b o hb => ?_⟩
  by_cases hm : b ∈ frs (env :: outer)
  ·obtain ⟨_, q⟩ := sl b o hb hm; exact ⟨_, q⟩
  ·by_cases hbe : b = e
   ·exact ⟨oe', by rw [hbe]; exact a1⟩
   ·exact ⟨o, kp b o hb hm hbe⟩
 ·refine wpAny_bind (wpAny_field he hd h1 ?_)
  rw [if_pos (show (Value.ref T != Value.none) = true from by simp)]
  refine wpAny_bind (wpAny_field hT hdT h3 ?_)
  rw [if_neg (show ¬ ((Value.none == rawInt L) = true) from by simp [rawInt])]
  refine wpAny_bind (wpAny_setField hT hdT (Array.getElem?_eq_some_iff.mp h3).1 ?_)
  have other : ∀ b, b ≠ T → (s.heap.update T (Obj.mapFields (·.setIfInBounds 3 Value.none))).get? b = s.heap.get? b := fun b hb => Heap.get?_update_other _ _ (Ne.symm hb)
  have nrec : ∀ b o, s.heap.get? b = some o → (∀ ws, o.data ≠ .fields ws) → b ≠ T := fun b o hb nf q => by
   rw [q, hT] at hb; cases hb; exact nf ts hdT
  have back : ∀ b, (s.heap.update T (Obj.mapFields (·.setIfInBounds 3 Value.none))).get? b = none → s.heap.get? b = none := fun b hb => by
   by_cases q : b = T
   ·subst q
    rw [Heap.get?_update_self _ hT (Obj.isFreed_of_fields (Obj.data_mapFields hdT _))] at hb; cases hb
   ·rw [other b q] at hb; exact hb
  refine eB hfr (hl.of_keeps fun b o hb nf => ⟨o, (other b (nrec b o hb nf)).trans hb, rfl⟩) hf ((other e (Ne.symm hTe)).trans he) hd (Array.getElem?_eq_some_iff.mp h1).1 fun h' T' oe' vs' oT' ts' nT' kp sl a1 a2 a3 a4 a5 a6 a7 a8 => ?_
  have nTf : T ∉ frs (env :: outer) := fun hm => by
   obtain ⟨_, o, ho, nf⟩ := hl.mem hm
   rw [hT] at ho; cases ho
   exact nf ts hdT
  refine k h' [e, T] (fun b hb => ?_) ⟨n, he0, oe', vs', a1, ⟨a2.1, a2.2.trans hdn⟩, a3, .inr ⟨T', oT', ts', a4, hN T' (back _ nT'), hH T' (back _ nT'), a5, a6, a7, a8⟩⟩ ⟨fun b o hb nb c => ?_, fun b o hb mb => ?_, fun b o hb => ?_⟩
  ·rcases List.mem_cons.mp hb with z | z
   ·rw [z]; exact ⟨n, he0, oe, vs, he, hd⟩
   ·rw [List.mem_singleton.mp z]; exact ⟨nT, hT0, oT, ts, hT, hdT⟩
  ·exact kp b o ((other b fun z => c (by simp [z])).trans hb) nb fun z => c (by simp [z])
  ·exact sl b o ((other b (by rintro rfl; exact nTf mb)).trans hb) mb
  ·by_cases hbT : b = T
   ·subst hbT
    have q := Heap.get?_update_self (Obj.mapFields (·.setIfInBounds 3 Value.none)) hT (Obj.isFreed_of_fields (Obj.data_mapFields hdT _))
    exact ⟨_, kp b _ q nTf hTe⟩
   ·by_cases hm : b ∈ frs (env :: outer)
    ·obtain ⟨_, q⟩ := sl b o ((other b hbT).trans hb) hm; exact ⟨_, q⟩
    ·by_cases hbe : b = e
     ·exact ⟨oe', by rw [hbe]; exact a1⟩
     ·exact ⟨o, kp b o ((other b hbT).trans hb) hm hbe⟩
theorem oX {e : Addr} {cls : Value} {Nw : Addr → Prop} {H : Hp} {Q : Unit → Shared → Prop} (F : Fly Nw s.heap H e cls)
  (k : ∀ h' ch, Recs Nw s.heap H ch → Fly Nw h' H e cls → Noted [] ch s.heap h' → Q () { s with heap := h' }) : wpAny M A (setFlight (.ref e) none) Q E s := by
 obtain ⟨n, he0, oe, vs, he, hc, hd, tr⟩ := F
 unfold setFlight
 rcases tr with h1 | ⟨T, oT, ts, h1, nT, hT0, hTe, hT, hdT, h3⟩
 ·refine wpAny_bind (wpAny_field he hd h1 ?_)
  rw [if_neg (by decide)]
  exact wpAny_pure (k s.heap [] (fun b hb => nomatch hb) ⟨n, he0, oe, vs, he, hc, hd, .inl h1⟩ ⟨fun b o hb _ _ => hb, fun b o hb z => (nomatch z), fun b o hb => ⟨o, hb⟩⟩)
 ·refine wpAny_bind (wpAny_field he hd h1 ?_)
  rw [if_pos (show (Value.ref T != Value.none) = true from by simp)]
  have sz := (Array.getElem?_eq_some_iff.mp h3).1
  have d3 := Obj.data_mapFields hdT (·.setIfInBounds 3 Value.none)
  have self := Heap.get?_update_self (Obj.mapFields (·.setIfInBounds 3 Value.none)) hT (Obj.isFreed_of_fields d3)
  have other : ∀ b, b ≠ T → (s.heap.update T (Obj.mapFields (·.setIfInBounds 3 Value.none))).get? b = s.heap.get? b := fun b hb => Heap.get?_update_other _ _ (Ne.symm hb)
  refine wpAny_setField hT hdT sz (k _ [T] (fun b hb => by rw [List.mem_singleton.mp hb]; exact ⟨nT, hT0, oT, ts, hT, hdT⟩) ⟨n, he0, oe, vs, (other e (Ne.symm hTe)).trans he, hc, hd, .inr ⟨T, _, _, h1, nT, hT0, hTe, self, d3, by simp [sz]⟩⟩ ⟨fun b o hb _ c => (other b fun z => c (by simp [z])).trans hb, fun b o hb z => (nomatch z), fun b o hb => ?_⟩)
  by_cases hbT : b = T
  ·subst hbT; exact ⟨_, self⟩
  ·exact ⟨o, (other b hbT).trans hb⟩
end
def CXE (P : Program) (w : World) : CXT := fun outer H s E e s' => ∃ a C H', e = .ref a ∧ s'.os = s.os ∧ AllBare s'.gens ∧ Un (frs outer) [] H H' s.heap s'.heap ∧ HOk P w H' s'.heap ∧
 Fly (fun b => s.heap.get? b = none) s'.heap H' a (.ref C) ∧ E (.ref C) none H'
theorem HOk.noted {P : Program} {w : World} {H : Hp} {h h' : Heap} {fs ch : List Addr} (x : HOk P w H h) (n : Noted fs ch h h') (ff : ∀ b ∈ fs, H b = none) (fc : ∀ b ∈ ch, H b = none) : HOk P w H h' := fun a o e => by
 refine (x a o e).stay (fun b u hb q => ?_) (fun _ q => q) fun _ _ q => q
 have tb : H b ≠ none := by
  rcases hb with rfl | hb
  ·rw [e]; exact Option.some_ne_none _
  ·rw [hb]; exact Option.some_ne_none _
 exact n.keep b u q (fun z => tb (ff b z)) fun z => tb (fc b z)
theorem HOk.obj {P : Program} {w : World} {H : Hp} {h : Heap} (x : HOk P w H h) {b : Addr} {o : HO} (q : H b = some o) : ∃ o', h.get? b = some o' := by
 have z := x b o q
 cases o with
 | lst xs => obtain ⟨_, _, _, _, e⟩ := z; exact ⟨_, e⟩
 | tup xs => obtain ⟨_, _, _, _, e, _⟩ := z; exact ⟨_, e⟩
 | dK kvs => obtain ⟨_, _, _, _, o, _, _, e, _⟩ := z; exact ⟨_, e⟩
 | dT kvs => obtain ⟨_, _, _, _, o, _, _, e, _⟩ := z; exact ⟨_, e⟩
 | set S n => obtain ⟨o, _, _, _, e, _⟩ := z; exact ⟨_, e⟩
 | ins C dx fs => obtain ⟨_, _, _, e, _⟩ := z; exact ⟨_, e⟩
 | own y => obtain ⟨_, e⟩ := z; exact ⟨_, e⟩
 | xd fs => obtain ⟨_, ⟨_, _, _, e, _⟩, _⟩ := z; exact ⟨_, e⟩
 | rng lo hi => obtain ⟨_, _, _, e⟩ := z; exact ⟨_, e⟩
 | frz ob u => obtain ⟨e, _⟩ := z; exact ⟨_, e⟩
 | tbl ps => exact ⟨_, z⟩
 | met f y => exact ⟨_, z⟩
 | ext φ => obtain ⟨_, ⟨_, e⟩, _⟩ := z; exact ⟨_, e⟩
theorem HOk.new {P : Program} {w : World} {H : Hp} {h : Heap} (x : HOk P w H h) {b : Addr} (hb : h.get? b = none) : H b = none := by
 cases q : H b with
 | none => rfl
 | some o =>
  obtain ⟨o', z⟩ := x.obj q
  rw [z] at hb; cases hb
def NewIn (X : Cx) : Addr → Prop := fun b => X.s₀.heap.get? b = none ∧ ∀ p ∈ X.pn, p.1 ≠ b
def ToX (X : Cx) (cl : Nat → Addr) (XE : Nat → St → Hp → Prop) : Prop :=
 ∀ (pins : List (Addr × Obj)) (σ : St) (H : Hp) (s : Shared) (a : Addr) (c : Nat), Inv X pins σ H s → Fly (NewIn X) s.heap H a (.ref (cl c)) → XE c σ H → X.xe (.ref a) s
section
variable {P : Program} {w : World} {K : PySem.W.Frag} {mg : Str → Option Value} {base : Heap} {N : List Str} {qual : Str} {scope : Scope} {f : Addr} {cd : Value} {A : Around} {outer : List Env} {s : Shared} {H : Hp} {E : XK} {cl : Nat → Addr}
theorem aM : ToX (cxOf (CXE P w) P w K mg base N qual scope f cd A outer s H E) cl (fun c _ H' => E (.ref (cl c)) none H') := by
 intro pins σ H1 s1 a c I F hE
 show wpAny _ _ (leaving _ _) _ _ s1
 unfold leaving
 have F' : Fly (fun b => s.heap.get? b = none) s1.heap H1 a (.ref (cl c)) := F.mono fun b z => z.1
 have back : ∀ b, s1.heap.get? b = none → s.heap.get? b = none := fun b hb => by
  cases q : s.heap.get? b with
  | none => rfl
  | some o =>
   obtain ⟨o', z⟩ := I.base.there b o q (fun z => nomatch z)
   rw [z] at hb; cases hb
 refine wpAny_bind (jJ (outer := outer) I.ok.frames I.stack rfl F' back (fun b hb => I.hok.new hb) fun h' ch rc F2 n => ?_)
 have nloc : ∀ b o, s.heap.get? b = some o → b ∉ frs outer → b ∉ frs ((cxOf (CXE P w) P w K mg base N qual scope f cd A outer s H E).env :: outer) := fun b o hb nb hm => by
  have hm' : b ∈ s.heap.objs.size :: frs outer := hm
  rcases List.mem_cons.mp hm' with z | z
  ·subst z; exact absurd (Heap.lt_size hb) (Nat.lt_irrefl _)
  ·exact nb z
 have sub : ∀ b, b ∈ frs outer → b ∈ frs ((cxOf (CXE P w) P w K mg base N qual scope f cd A outer s H E).env :: outer) := fun b hb => show b ∈ s.heap.objs.size :: frs outer from List.mem_cons_of_mem _ hb
 have B : Un (frs outer) [] H H1 s.heap s1.heap := I.base
 refine ⟨a, cl c, H1, rfl, I.os, I.bare, ⟨fun b o q n1 nb nx => ?_, fun b o q n1 mb nx => ?_, B.free, fun b o q nx => ?_, B.tups, B.frzs, B.tbls⟩, I.hok.noted n (fun b hb => I.stkFree b hb) fun b hb => (rc b hb).2.1, F2, hE⟩
 ·exact n.keep b o (B.keep b o q n1 nb nx) (nloc b o q nb) fun z => by have y : s.heap.get? b = none := (rc b z).1; rw [q] at y; cases y
 ·obtain ⟨sl, z⟩ := B.slot b o q n1 mb nx
  obtain ⟨sl', z'⟩ := n.slot b _ z (sub b mb)
  exact ⟨sl', z'⟩
 ·obtain ⟨o', z⟩ := B.there b o q nx
  exact n.there b o' z
end
end L2
namespace L2
open PySem PySem.Spec PyProof.Rows
section
variable {X : Cx} {cl : Nat → Addr} {XE : Nat → St → Hp → Prop} {pins : List (Addr × Obj)} {σ : St} {H : Hp} {s : Shared}
theorem Inv.newIn (I : Inv X pins σ H s) (hx : X.ex = []) {b : Addr} (hb : s.heap.get? b = none) : NewIn X b := by
 refine ⟨?_, fun p hp z => ?_⟩
 ·cases q : X.s₀.heap.get? b with
  | none => rfl
  | some o =>
   obtain ⟨o', z⟩ := I.base.there b o q (by rw [hx]; exact fun z => nomatch z)
   rw [z] at hb; cases hb
 ·have := (I.pin p (List.mem_append_left _ hp)).1
  rw [z, hb] at this; cases this
theorem pass_of (hx : X.ex = []) (t : ToX X cl XE) (σ : St) (pins : List (Addr × Obj)) (H : Hp) (s : Shared) (e : Value) (s' : Shared) (I : Inv X pins σ H s)
  (z : CXE X.prog X.w X.stack H s (fun k _ H' => ∃ c, k = .ref (cl c) ∧ XE c σ H') e s') : X.xe e s' := by
 obtain ⟨a, C, H', rfl, os, bare, un, hok, F, c, ec, xe⟩ := z
 have ec' : C = cl c := by simpa using ec
 subst ec'
 exact t pins σ H' s' a c (I.call' os un hok bare fun b z => nomatch z) (F.mono fun b hb => I.newIn hx hb) xe
def tRaise (XE : Nat → St → Hp → Prop) (c : Nat) : TS := fun _ σ H => XE c σ H
theorem oY {c : Nat} {x tx : Str} {bm bmN : List Value} {B Bn newId nid initId inN : String} {j : Nat} {p np cpos pos : Pos} (hc : X.calm = true) (hx : X.ex = []) (t : ToX X cl XE) (hg : Gl X x) (hdb : (x == ("__debug__" : Str)) = false)
  (O : OwnCls x (cl c) bm newId X.mg X.base) (Fn : ExcBaseFacts Bn newId inN bmN) (hBn : bm.contains (.type Bn) = true) (FB : ExcBaseFacts B nid initId bm) :
  PS X (.Raise (some (.Call (.Name x np) [.Constant (.str tx) j p] [] cpos)) none pos) (tRaise XE c) := by
 intro pins s σ H D I h
 obtain ⟨tl, N, nm, q, bs, hdct, sn, sub, ab, col, dd, k0, k1, k2, k3, k5, mN, hC, hN, hni, T⟩ := O.obj
 refine wpAny_Raise_call_subU (C := cl c) (nm := nm) (q := q) (N := N) (bs := bs) (bm := tl) (hdct := hdct) (sn := sn) (sub := sub) (ab := ab) (col := col) (dd := dd) (k0 := k0) (k1 := k1) (k2 := k2) (k3 := k3) (k5 := k5) Fn hBn FB (mN := mN) (T.hasType FB.hasBase) (I.ok.hd hc) rfl hni (eV I hg O.bound ⟨rfl, ?_⟩ hdb)
 refine Calls.evalArgs_plain (wpAny_mono ((pa_cons pe_str pa_nil : PA X [.Constant (.str tx) j p] _) cpos pins s σ H (fun vs H1 => H1 = H ∧ vs.length = 1) I ⟨rfl, rfl⟩) (fun us s2 h2 => ?_) fun _ _ z => z)
 obtain ⟨vs, H1, I2, r, rfl, hv⟩ := h2
 have hl : us.length = 1 := by rw [← r.length]; exact hv
 refine ⟨rfl, by show us.length ≤ _; rw [hl]; decide, I2.bk _ _ hC, hN.keeps I2.bk, T.keeps I2.bk, fun h' e m => ?_⟩
 obtain ⟨tt, ht, _, _⟩ := m.there
 have I3 : Inv X pins σ H1 { s2 with heap := h' } := I2.kept (t' := s2.toks) m.keeps
 exact t pins σ H1 _ e c I3 ⟨I2.newIn hx m.new, I2.hok.new m.new, _, _, ht, ⟨rfl, rfl⟩, rfl, .inl rfl⟩ h
theorem Inv.noted {h' : Heap} {ch fs : List Addr} (I : Inv X pins σ H s) (hfs : ∀ b ∈ fs, b ∈ frs X.stack) (n : Noted fs ch s.heap h') (rc : Recs (fun b => X.s₀.heap.get? b = none ∧ ∀ p ∈ X.pn ++ pins, p.1 ≠ b) s.heap H ch) : Inv X pins σ H { s with heap := h' } := by
 have nrec : ∀ b o, s.heap.get? b = some o → (∀ ws, o.data ≠ .fields ws) → b ∉ ch := fun b o hb nf z => by
  obtain ⟨_, _, o', ws, e, d⟩ := rc b z
  rw [hb] at e; cases e
  exact nf ws d
 have any : ∀ b o, s.heap.get? b = some o → b ∉ ch → ∃ sl, h'.get? b = some { o with slots := sl } := fun b o hb nc => by
  by_cases hm : b ∈ fs
  ·exact n.slot b o hb hm
  ·exact ⟨o.slots, n.keep b o hb hm nc⟩
 have old : ∀ b o, X.s₀.heap.get? b = some o → b ∉ ch := fun b o hb z => by
  have := (rc b z).1.1
  rw [hb] at this; cases this
 have nfs : ∀ b, b ≠ X.env.locals → b ∉ X.fs → b ∉ fs := fun b h1 h2 z => (List.mem_cons.mp (I.stkSub b (hfs b z))).elim h1 h2
 have neL : ∀ b o, X.s₀.heap.get? b = some o → b ≠ X.env.locals := fun b o e => Nat.ne_of_lt (Nat.lt_of_lt_of_le (Heap.lt_size e) I.ok.above)
 have cellK : ∀ x c, X.env.cells.lookup x = some c → ∀ v, s.heap.IsCell c v → h'.IsCell c v := fun x c e v ⟨o, ho, hd⟩ => by
  obtain ⟨sl, q⟩ := any c o ho (nrec c o ho fun ws z => by rw [hd] at z; cases z)
  exact ⟨_, q, hd⟩
 obtain ⟨m, ⟨oL, es, ep, hoL, hdL, rL⟩, hl⟩ := id I.loc
 obtain ⟨slL, qL⟩ := any _ oL hoL (nrec _ oL hoL fun ws z => by rw [hdL] at z; cases z)
 refine ⟨I.ok, I.os, I.bare, ⟨fun b o e nn hb hx => ?_, fun b o e nn hb hx => ?_, I.base.free, fun b o e hx => ?_, I.base.tups, I.base.frzs, I.base.tbls⟩, ⟨m, ⟨_, es, ep, qL, hdL, rL⟩, fun i x v e1 e2 e3 => ?_⟩, fun x c e => ?_, I.free, I.freeC, fun p hp => ?_, I.hok.noted n (fun b hb => I.stkFree b (hfs b hb)) fun b hb => (rc b hb).2.1, I.len⟩
 ·exact n.keep b o (I.base.keep b o e nn hb hx) (nfs b (neL b o e) hb) (old b o e)
 ·obtain ⟨sl, q⟩ := I.base.slot b o e nn hb hx
  obtain ⟨sl', q'⟩ := any b _ q (old b o e)
  exact ⟨sl', q'⟩
 ·obtain ⟨o', q⟩ := I.base.there b o e hx
  exact n.there b o' q
 ·obtain ⟨u, r, l⟩ := hl i x v e1 e2 e3
  refine ⟨u, r, ?_⟩
  rcases l with l | ⟨k, c, e, z⟩
  ·exact .inl l
  ·exact .inr ⟨k, c, e, cellK x c e _ z⟩
 ·obtain ⟨v, z⟩ := I.cell x c e
  exact ⟨v, cellK x c e v z⟩
 ·obtain ⟨e, nn, ne, nf, d⟩ := I.pin p hp
  exact ⟨n.keep p.1 p.2 e (nfs _ ne nf) fun z => (rc p.1 z).1.2 p hp rfl, nn, ne, nf, d⟩
def excHO (a C : Addr) : HO := .ext fun h => ∃ o, h.get? a = some o ∧ o.cls = .ref C ∧ o.dict = none ∧ ∃ vs, o.data = .fields vs
theorem Inv.track {a C : Addr} (I : Inv X pins σ H s) (F : Fly (fun b => X.s₀.heap.get? b = none ∧ ∀ p ∈ X.pn ++ pins, p.1 ≠ b) s.heap H a (.ref C)) : Inv X pins σ (upd H a (excHO a C)) s := by
 obtain ⟨⟨n0, np⟩, hn, oe, vs, he, hc, hd, _⟩ := F
 have up : ∀ b, b ≠ a → (upd H a (excHO a C)) b = H b := fun b hb => aL hb
 have nL : X.env.locals ≠ a := fun z => by
  obtain ⟨m, ⟨oL, es, ep, hoL, hdL, _⟩, _⟩ := I.loc
  rw [z, he] at hoL; cases hoL
  rw [hd] at hdL; cases hdL
 refine ⟨I.ok, I.os, I.bare, ⟨I.base.keep, I.base.slot, fun b o e nn hx => ?_, I.base.there, fun b xs e => ?_, fun b o u e => ?_, fun b ps e => ?_⟩, I.loc, I.cell, ?_, fun x c e => ?_, fun p hp => ?_, fun b u e => ?_, I.len⟩
 ·rw [up b (by rintro rfl; rw [n0] at e; cases e)]; exact I.base.free b o e nn hx
 ·have q := I.base.tups b xs e
  rw [up b (aT q hn)]; exact q
 ·have q := I.base.frzs b o u e
  rw [up b (aT q hn)]; exact q
 ·obtain ⟨mo, q⟩ := I.base.tbls b ps e
  exact ⟨mo, by rw [up b (aT q hn)]; exact q⟩
 ·rw [up _ nL]; exact I.free
 ·have z : c ≠ a := fun z => by
   obtain ⟨v, o, ho, hdc⟩ := I.cell x c e
   rw [z, he] at ho; cases ho
   rw [hd] at hdc; cases hdc
  rw [up c z]; exact I.freeC x c e
 ·obtain ⟨e, nn, ne, nf, d⟩ := I.pin p hp
  exact ⟨e, by rw [up p.1 (np p hp)]; exact nn, ne, nf, d⟩
 ·by_cases hb : b = a
  ·subst hb
   rw [aO] at e
   cases e
   exact ⟨⟨oe, he, hc.1, hc.2, vs, hd⟩, ⟨oe, he⟩, fun h1 h2 ⟨o, q, c⟩ k => ⟨o, k o q, c⟩⟩
  ·rw [up b hb] at e
   exact (I.hok b u e).stay (fun _ _ _ q => q) (fun c q => by rw [up c (aT q hn)]; exact q) fun c xs q => by rw [up c (aT q hn)]; exact q
end
end L2
namespace L2
open PySem PySem.Spec PyProof.Rows
def tryCx (X : Cx) (cl : Nat → Addr) (pins : List (Addr × Obj)) (XH : Nat → St → Hp → Prop) : Cx := { X with
 pn := X.pn ++ pins
 xe := fun v s' => ∃ a c σ H, v = .ref a ∧ Inv X pins σ H s' ∧ Fly (fun b => X.s₀.heap.get? b = none ∧ ∀ p ∈ X.pn ++ pins, p.1 ≠ b) s'.heap H a (.ref (cl c)) ∧ XH c σ H }
def hdCx (X : Cx) (a : Addr) : Cx := { X with A := X.A.mark (some (.ref a)), calm := false, xe := fun _ _ => False }
section
variable {X : Cx} {cl : Nat → Addr} {XH : Nat → St → Hp → Prop} {pins pins' : List (Addr × Obj)} {σ : St} {H : Hp} {s : Shared} {a : Addr}
theorem Cx.Ok.same {Y : Cx} (ok : X.Ok) (h : Y = { X with pn := Y.pn, xe := Y.xe }) : Y.Ok := by
 rw [h]
 exact ⟨ok.mod, ok.kind, ok.glob, ok.blt, ok.above, ok.inj, ok.has, ok.cab, ok.hd, ok.frames, ok.stk, ok.exf, ok.bs, ok.bsz, ok.noex, ok.exfs, ok.funs, ok.frf⟩
theorem Inv.inTry (I : Inv X pins σ H s) : Inv (tryCx X cl pins XH) [] σ H s :=
 ⟨I.ok.same rfl, I.os, I.bare, I.base, I.loc, I.cell, I.free, I.freeC, fun p hp => I.pin p (by rw [List.append_nil] at hp; exact hp), I.hok, I.len⟩
theorem Inv.ofTry (I : Inv (tryCx X cl pins XH) pins' σ H s) : Inv X pins σ H s :=
 ⟨I.ok.same (X := tryCx X cl pins XH) (Y := X) rfl, I.os, I.bare, I.base, I.loc, I.cell, I.free, I.freeC, fun p hp => I.pin p (List.mem_append_left _ hp), I.hok, I.len⟩
theorem tox_try : ToX (tryCx X cl pins XH) cl XH := fun pins' σ H s a c I F h => ⟨a, c, σ, H, rfl, I.ofTry, F, h⟩
theorem Inv.inHd (I : Inv X pins σ H s) : Inv (hdCx X a) pins σ H s :=
 ⟨⟨I.ok.mod, I.ok.kind, I.ok.glob, I.ok.blt, I.ok.above, I.ok.inj, I.ok.has, I.ok.cab, fun z => Bool.noConfusion z, I.ok.frames, I.ok.stk, I.ok.exf, I.ok.bs, I.ok.bsz, I.ok.noex, I.ok.exfs, I.ok.funs, I.ok.frf⟩,
  I.os, I.bare, I.base, I.loc, I.cell, I.free, I.freeC, I.pin, I.hok, I.len⟩
theorem Inv.ofHd (ok : X.Ok) (I : Inv (hdCx X a) pins σ H s) : Inv X pins σ H s := ⟨ok, I.os, I.bare, I.base, I.loc, I.cell, I.free, I.freeC, I.pin, I.hok, I.len⟩
theorem SP.ofTry {D : Ends} {f : Flow} (h : SP (tryCx X cl pins XH) pins' D f s) : SP X pins D f s := by
 cases f with
 | next => obtain ⟨σ', H', I, q⟩ := h; exact ⟨σ', H', I.ofTry, q⟩
 | brk => obtain ⟨σ', H', I, q⟩ := h; exact ⟨σ', H', I.ofTry, q⟩
 | cont => obtain ⟨σ', H', I, q⟩ := h; exact ⟨σ', H', I.ofTry, q⟩
 | ret u => obtain ⟨v, σ', H', I, r, q⟩ := h; exact ⟨v, σ', H', I.ofTry, r, q⟩
def hdRas (X : Cx) (cl : Nat → Addr) (CE : Addr) (i : Nat) (th : TS) (D : Ends) : Nat → St → Hp → Prop := fun c σ H => PySem.W.exmOne X.K (.ref (cl c)) (.ref CE) = some true ∧
 ∀ a, H a = none → th ⟨fun σ' H' => D.nx (σ'.set i none) H', D.rt, fun _ _ => False, fun _ _ => False⟩ (σ.set i (some (.ref a))) (upd H a (excHO a (cl c)))
theorem caught {c : Nat} {CE : Addr} {cn : Str} {np hpos : Pos} {b0 : Stmt} {suite : List Stmt} {nm : Option Str} {Q : Flow → Shared → Prop} (hx : X.ex = []) (hst : X.stack = X.env :: X.outer) (hfm : X.env.frame = some X.env.locals) (hg : Gl X cn) (hm : X.mg cn = some (.ref CE)) (hdb : (cn == ("__debug__" : Str)) = false)
  (I : Inv X pins σ H s) (F : Fly (fun b => X.s₀.heap.get? b = none ∧ ∀ p ∈ X.pn ++ pins, p.1 ≠ b) s.heap H a (.ref (cl c))) (hk : PySem.W.exmOne X.K (.ref (cl c)) (.ref CE) = some true)
  (k : ∀ s2, Inv X pins σ H s2 → Fly (fun b => X.s₀.heap.get? b = none ∧ ∀ p ∈ X.pn ++ pins, p.1 ≠ b) s2.heap H a (.ref (cl c)) →
   codeAny (model X.prog X.w) (X.A.mark (some (.ref a))) (.handlers (.ref a) [.ExceptHandler none nm (b0 :: suite) hpos] X.env) (fun r s₂ => match r with
     | .ok f => (match nm with
      | none => Q f s₂
      | some n => wpAny (model X.prog X.w) X.A (do bindName X.env n .none; unbindBehindTheSuite X.env n hpos) (fun _ s₃ => Q f s₃) X.xe s₂)
     | .error x => cameBackBy (model X.prog X.w) X.A X.env X.xe x s₂) s2) :
  wpAny (model X.prog X.w) X.A (noteFrame (.ref a) X.env) (fun _ s₂ => wpAny (model X.prog X.w) X.A (setFlight (.ref a) none) (fun _ s₃ => wpAny (model X.prog X.w) X.A (handleBy (.ref a) X.env [.ExceptHandler (some (.Name cn np)) nm (b0 :: suite) hpos]) Q X.xe s₃) X.xe s₂) X.xe s := by
 have fresh : ∀ b, s.heap.get? b = none → X.s₀.heap.get? b = none ∧ ∀ p ∈ X.pn ++ pins, p.1 ≠ b := fun b hb => ⟨(I.newIn hx hb).1, fun p hp z => by
  have := (I.pin p hp).1
  rw [z, hb] at this; cases this⟩
 have hl := I.stack
 rw [hst] at hl
 refine jJ (outer := X.outer) (by rw [I.ok.frames, hst]) hl hfm F fresh (fun b hb => I.hok.new hb) fun h' ch rc F2 n => ?_
 have I2 : Inv X pins σ H { s with heap := h' } := I.noted (fun b hb => by rw [hst]; exact hb) n rc
 refine wpAny_handleBy_cons (codeAny_handlers_test (eV (X := { X with A := X.A.mark (some (.ref a)), calm := false }) (σ := σ) (H := H) (pins := pins) ?_ hg hm ?_ hdb)) (by intro q; cases q)
 ·exact ⟨⟨I2.ok.mod, I2.ok.kind, I2.ok.glob, I2.ok.blt, I2.ok.above, I2.ok.inj, I2.ok.has, I2.ok.cab, fun z => Bool.noConfusion z, I2.ok.frames, I2.ok.stk, I2.ok.exf, I2.ok.bs, I2.ok.bsz, I2.ok.noex, I2.ok.exfs, I2.ok.funs, I2.ok.frf⟩,
   I2.os, I2.bare, I2.base, I2.loc, I2.cell, I2.free, I2.freeC, I2.pin, I2.hok, I2.len⟩
 ·obtain ⟨_, _, oe, vs, he, ⟨hc, _⟩, _⟩ := id F2
  have LT : PySem.W.Looks (model X.prog X.w) h' (typeOf (.ref a)) (.ref (cl c)) := by
   have q : PySem.W.Looks (model X.prog X.w) h' (typeOf (.ref a)) oe.cls := (PySem.W.Looks.ld he).andThen .now
   rw [hc] at q
   exact q
  exact (PySem.W.exm_one I2.kIn LT hk).here (k _ I2 F2)
theorem Inv.gone {n : Str} {i : Nat} {h' : Heap} {v : Option Value} {m : Str → Option Value} {t' : Nat} (I : Inv X pins σ H s) (hN : X.N.Nodup) (hi : X.N[i]? = some n) (hl : X.env.scope.names.lookup n = some .local) (hm : ∀ (i : Nat) (x : Str) (v : V), X.N[i]? = some x → σ[i]? = some (some v) → Vis X.env.scope x → ∃ u, RelV v u ∧ Look X.env s.heap m x u)
  (hn : s.heap.Ns X.env.locals m) (hn' : h'.Ns X.env.locals (fun x => if x = n then v else m x)) (hs : Heap.SameBut X.env.locals s.heap h') : Inv X pins (σ.set i none) H { s with heap := h', toks := t' } := by
 obtain ⟨oL, _, _, hoL, _⟩ := id hn
 have neL : ∀ b o, X.s₀.heap.get? b = some o → b ≠ X.env.locals := fun b o e => Nat.ne_of_lt (Nat.lt_of_lt_of_le (Heap.lt_size e) I.ok.above)
 refine ⟨I.ok, I.os, I.bare, ⟨fun b o e nn hb hx => ?_, fun b o e nn hb hx => ?_, I.base.free, fun b o e hx => ?_, I.base.tups, I.base.frzs, I.base.tbls⟩, ⟨_, hn', fun j y w e1 e2 e3 => ?_⟩, fun y c e => ?_, I.free, I.freeC, fun p hp => ?_, fun b u e => ?_, by simpa using I.len⟩
 ·exact (hs.2 b (neL b o e)).trans (I.base.keep b o e nn hb hx)
 ·obtain ⟨sl, q⟩ := I.base.slot b o e nn hb hx
  exact ⟨sl, (hs.2 b (neL b o e)).trans q⟩
 ·obtain ⟨o', q⟩ := I.base.there b o e hx
  exact ⟨o', (hs.2 b (neL b o e)).trans q⟩
 ·by_cases hj : j = i
  ·subst hj
   have hj' : j < σ.length := by
    have := (List.getElem?_eq_some_iff.mp e2).1
    simpa using this
   rw [List.getElem?_set_self hj'] at e2
   cases e2
  ·rw [List.getElem?_set_ne (Ne.symm hj)] at e2
   obtain ⟨u, r, q⟩ := hm j y w e1 e2 e3
   refine ⟨u, r, ?_⟩
   rcases q with ⟨k, e⟩ | ⟨k, c, e, z⟩
   ·refine .inl ⟨k, ?_⟩
    have : y ≠ n := fun z => hj (fB hN e1 (z ▸ hi))
    show (if y = n then v else m y) = _
    rw [if_neg this]; exact e
   ·exact .inr ⟨k, c, e, z.sameBut hs (I.cne y c e)⟩
 ·obtain ⟨w', z⟩ := I.cell y c e
  exact ⟨w', z.sameBut hs (I.cne y c e)⟩
 ·obtain ⟨e, nn, ne, nf, d⟩ := I.pin p hp
  exact ⟨(hs.2 p.1 ne).trans e, nn, ne, nf, d⟩
 ·refine (I.hok b u e).stay (fun c w' hc q => (hs.2 c ?_).trans q) (fun _ q => q) fun _ _ q => q
  rintro rfl
  rcases hc with rfl | hc
  ·rw [I.free] at e; cases e
  ·rw [I.free] at hc; cases hc
theorem oZ {CE : Addr} {cn n : Str} {i : Nat} {np hpos pos : Pos} {body suite : List Stmt} {b0 : Stmt} {th : TS} (hx : X.ex = []) (hst : X.stack = X.env :: X.outer) (hfm : X.env.frame = some X.env.locals) (hg : Gl X cn) (hm : X.mg cn = some (.ref CE)) (hdb : (cn == ("__debug__" : Str)) = false)
  (hN : X.N.Nodup) (hi : X.N[i]? = some n) (hl : X.env.scope.names.lookup n = some .local) (hh : ∀ a, PSs (hdCx X a) (b0 :: suite) th) :
  PS X (.Try body [.ExceptHandler (some (.Name cn np)) (some n) (b0 :: suite) hpos] [] [] pos) (fun D σ H => ∀ pins, ∃ tb, PSs (tryCx X cl pins (hdRas X cl CE i th D)) body tb ∧ tb D σ H) := by
 intro pins s σ H D I h
 obtain ⟨tb, hb, q⟩ := h pins
 refine wpAny_Try_except (wpAny_mono (hb [] s σ H D I.inTry q) (fun f s1 hf => ?_) fun v s1 hf => ?_)
 ·have hf' := SP.ofTry hf
  cases f with
  | next => exact wpAny_execs_nil hf'
  | brk => exact hf'
  | cont => exact hf'
  | ret u => exact hf'
 ·obtain ⟨a, c, σ1, H1, rfl, I1, F1, hk, q1⟩ := hf
  refine caught hx hst hfm hg hm hdb I1 F1 hk fun s2 I2 F2 => codeAny_handlers_suite_as (oX F2 fun h' ch rc F3 nn => ?_)
  have I3 : Inv X pins σ1 H1 { s2 with heap := h' } := I2.noted (fs := []) (fun b hb => absurd hb (by simp)) nn rc
  have hn0 : H1 a = none := F3.2.1
  have I4 := I3.track F3
  refine fC (X := X) I4 hN hi (.inl hl) (v := .ref a) rfl (fun s5 I5 => ?_) (.inr hl)
  refine wpAny_mono (hh a pins _ _ _ _ I5.inHd (q1 a hn0)) (fun f s6 hf => ?_) fun _ _ z => z.elim
  have hcls : (X.env.scope.kind == .class || (X.env.scope.kind == .module && X.env.locals != X.env.globals)) = false := by rw [I3.ok.kind]; rfl
  cases f with
  | next =>
   obtain ⟨σ', H', I', z⟩ := hf
   have I6 : Inv X pins σ' H' s6 := I'.ofHd I3.ok
   obtain ⟨m, hns, hlk⟩ := I6.loc
   exact wpAny_nameGoes_keeps hl hns hcls fun h7 v7 n7 s7 => ⟨_, _, I6.gone hN hi hl hlk hns n7 s7, z⟩
  | brk => obtain ⟨σ', H', I', z⟩ := hf; exact z.elim
  | cont => obtain ⟨σ', H', I', z⟩ := hf; exact z.elim
  | ret u =>
   obtain ⟨v, σ', H', I', r, z⟩ := hf
   have I6 : Inv X pins σ' H' s6 := I'.ofHd I3.ok
   obtain ⟨m, hns, hlk⟩ := I6.loc
   exact wpAny_nameGoes_keeps hl hns hcls fun h7 v7 n7 s7 => ⟨v, _, _, I6.gone hN hi hl hlk hns n7 s7, r, z⟩
end
end L2
namespace L2
open PySem PySem.Spec PyProof.Rows PySem.W
structure ExcCls (K : Frag) (C : Addr) : Prop where
 ga : findIn K (.ref C) "__getattribute__" = some (some (.builtin "BaseException.__getattribute__"))
 gt : findIn K (.ref C) "__getattr__" = some none
 cl : findIn K (.ref C) "__class__" = some (some (.builtin "object.__class__"))
 gs : specialIn K (.builtin "object.__class__") "__get__" = some (some (.builtin "getset_descriptor.__get__"))
 tk : takesIn K (.builtin "object.__class__") = some true
 ob : mroIn K C (.type "object") = some true
 be : mroIn K C (.type "BaseException") = some true
 is : ∃ cd, clsIn K C = some cd
def ExcAt (a C : Addr) (h : Heap) : Prop := ∃ o, h.get? a = some o ∧ o.cls = .ref C ∧ o.dict = none ∧ ∃ vs, o.data = .fields vs
theorem ExcAt.inst {a C : Addr} {h : Heap} (x : ExcAt a C h) : ∃ o, PySem.W.InstAt h a o C none := by
 obtain ⟨o, h1, h2, h3, vs, h4⟩ := x
 refine ⟨o, h1, h2, ?_, by rw [h3]; trivial⟩
 obtain ⟨c, d, dt, sl⟩ := o
 cases h4
 rfl
section
variable {prog : Program} {w : World} {A : Around} {E : Value → Shared → Prop} {s : Shared} {K : Frag} {a C : Addr}
theorem m7 {tk : Tok} {Q : Fin → Shared → Prop} (X : K.In s.heap) (F : ExcCls K C) (x : ExcAt a C s.heap) (h : Q (.done (.ret (.ref C))) s) : wpAny (model prog w) A (Builtin.«object.__getattribute__» ⟨[.ref a, .str "__class__" tk], []⟩) Q E s := by
 obtain ⟨o, I⟩ := x.inst
 have hf : findObj K C none "__class__" = some (.bind (.builtin "getset_descriptor.__get__") (.builtin "object.__class__")) := by
  obtain ⟨cd, hc⟩ := F.is
  unfold findObj
  rw [hc, Option.bind_some, F.cl, Option.bind_some]
  simp [F.gs, F.tk]
 have L0 := I.type (M := model prog w)
 have L1 := looks_find (M := model prog w) X I hf
 refine wpAny_bind (wpAny_pure (wpAny_bind (wpAny_pure (wpAny_bind (L0.here (wpAny_bind (L1.here ?_)))))))
 refine wpAny_bind (wpAny_holding (wpAny_call (class_get X I F.ob (wpAny_pure h))))
theorem m9 {nv : Value} {Q : Unit → Shared → Prop} (X : K.In s.heap) (F : ExcCls K C) (x : ExcAt a C s.heap) (h : Q () s) : wpAny (model prog w) A (checkBuiltinCall "BaseException.__getattribute__" ⟨[.ref a, nv], []⟩) Q E s := by
 obtain ⟨o, I⟩ := x.inst
 have hk : builtinKind "BaseException.__getattribute__" = some .slot := by decide +kernel
 have hsp : splitId "BaseException.__getattribute__" = some ("BaseException", "__getattribute__") := by decide +kernel
 have ha := PySem.F.args_bexc_ga (.ref a) nv
 have LI : Looks (model prog w) s.heap (isInstance (.ref a) (.type "BaseException")) true := (I.type (M := model prog w)).andThen (looks_mroIn X F.be)
 simp only [checkBuiltinCall, hk, hsp]
 refine wpAny_bind (LI.here ?_)
 obtain ⟨hh, gg, dd, tt, oo⟩ := s
 repeat (any_goals (first | assumption | wp_step))
theorem o0 {tk : Tok} {R : Result → Shared → Prop} (X : K.In s.heap) (F : ExcCls K C) (x : ExcAt a C s.heap) (h : R (.ok (.ret (.ref C))) s) : codeAny (model prog w) A (.call (.builtin "BaseException.__getattribute__") ⟨[.ref a, .str "__class__" tk], []⟩) R s :=
 codeAny_call_builtin PySem.F.excAttr_ValueError.ga.plain PySem.F.entry_bexc_ga (m9 X F x (m7 X F x h))
theorem o3 {Q : Option Value → Shared → Prop} (X : K.In s.heap) (F : ExcCls K C) (x : ExcAt a C s.heap) (h : Q (some (.ref C)) { s with toks := s.toks + 1 }) : wpAny (model prog w) A (getAttr? (.ref a) "__class__") Q E s := by
 obtain ⟨o, I⟩ := x.inst
 obtain ⟨hh, gg, dd, tt, oo⟩ := s
 have L0 := I.type (M := model prog w)
 have L1 := looks_findIn (M := model prog w) X F.ga
 have L2 := looks_findIn (M := model prog w) X F.gt
 have f3 := PySem.F.excAttr_ValueError.ga.bind (.ref a)
 have hx2 : (Value.builtin "BaseException.__getattribute__" == Value.builtin "object.__getattribute__") = false := by decide +kernel
 have hx1 : (onTheHeap (Value.ref C) && Value.builtin "BaseException.__getattribute__" == Value.builtin "object.__getattribute__") = false := by rw [hx2]; rfl
 unfold getAttr? getAttrBy? getAttrBy
 refine wpAny_bind (wpAny_mkText (wpAny_bind (wpAny_attempt (wpAny_holding (wpAny_bind (L0.at (wpAny_bind (L1.at ?_))))))))
 simp only [hx1, Bool.false_eq_true, if_false]
 unfold getAttrByItsOwn hookBefore
 refine wpAny_bind ?_
 rw [if_pos (show onTheHeap (Value.ref C) = true from rfl)]
 refine L2.at (wpAny_bind (wpAny_attempt (wpAny_holding ?_)))
 unfold callGetattribute
 rw [if_neg (by decide)]
 unfold boundAndCalled
 repeat (any_goals (first | assumption | wp_step))
 refine o0 (s := ⟨hh, gg, dd, tt + 1, oo⟩) X F x ?_
 show wpAny _ _ (handedOut (.ref C)) _ _ _
 exact handed_on rfl (wpAny_pure h)
theorem o4 (F : ExcCls K C) : KitX K (.ref a) (.ref C) (ExcAt a C) where
 ty := fun _ _ _ x => let ⟨_, I⟩ := x.inst; I.type
 it := fun _ _ X _ => by
  obtain ⟨cd, hc⟩ := F.is
  unfold clsIn at hc
  split at hc
  ·rename_i c' d' cd' sl' ho
   intro A' Q' E' s' k q
   unfold isType loadHead
   exact wpAny_bind (wpAny_loadPart (k _ _ (X _ _ ho)) (wpAny_pure q))
  ·cases hc
 ne := fun h tp dd its n sl X htp => by
  obtain ⟨cd, hc⟩ := F.is
  refine Bool.eq_false_iff.mpr fun q => ?_
  have e : C = tp := Value.ref.inj (beq_iff_eq.mp q)
  subst e
  unfold clsIn at hc
  split at hc
  ·rename_i c' d' cd' sl' ho
   have z := (X _ _ ho).symm.trans htp
   cases z
  ·cases hc
 ca := fun X x k => o3 X F x k
end
end L2
namespace PySem
end PySem
namespace L2
open PySem PyProof.Rows
variable {X : Cx}
end L2
namespace L2
open PySem PyProof.Rows
variable {X : Cx}
end L2
namespace L2
open PySem PySem.Spec PyProof.Rows
end L2
namespace L2
open PySem PySem.Spec PyProof.Rows
variable {X : Cx}
end L2
namespace L2
open PySem PySem.Spec PyProof.Rows
def FlyG (Nw : Addr → Prop) (h : Heap) (H : Hp) (e : Addr) (cls : Value) : Prop :=
 Nw e ∧ H e = none ∧ ∃ oe vs, h.get? e = some oe ∧ (oe.cls = cls ∧ oe.dict = none) ∧ oe.data = .fields vs ∧ ∃ T oT ts v, vs[1]? = some (.ref T) ∧ Nw T ∧ H T = none ∧ T ≠ e ∧ h.get? T = some oT ∧ oT.data = .fields ts ∧ ts[3]? = some v
section
variable {M : Model} {A : Around} {E : Value → Shared → Prop} {s : Shared}
theorem jK {bs : Heap} {env : Env} {outer : List Env} {L e : Addr} {oe : Obj} {vs : Array Value} {head : Value} {hn : Bool} {Q : Unit → Shared → Prop} (hfr : A.frames = some (env :: outer)) (hl : s.heap.FunFrames bs (env :: outer)) (hf : env.frame = some L)
  (he : s.heap.get? e = some oe) (hd : oe.data = .fields vs) (hsz : 1 < vs.size)
  (k : ∀ h' T oe' vs' oT ts v, s.heap.get? T = none → (∀ b o, s.heap.get? b = some o → b ∉ frs (env :: outer) → b ≠ e → h'.get? b = some o) → (∀ b o, s.heap.get? b = some o → b ∈ frs (env :: outer) → ∃ sl, h'.get? b = some { o with slots := sl }) →
   h'.get? e = some oe' → (oe'.cls = oe.cls ∧ oe'.dict = oe.dict) → oe'.data = .fields vs' → vs'[1]? = some (.ref T) → T ≠ e → h'.get? T = some oT → oT.data = .fields ts → ts[3]? = some v → Q () { s with heap := h' }) :
  wpAny M A (do let a ← frameOf env; let pl ← entryPlaceOf L hn; let b ← EntryCells.newEntry head a .none (rawInt L) .none pl; setField (.ref e) 1 b) Q E s := by
 have ne : e ∉ frs (env :: outer) := fun hm => by
  obtain ⟨_, o, ho, nf⟩ := hl.mem hm
  rw [he] at ho; cases ho
  exact nf vs hd
 refine wpAny_bind (wpAny_frameOf_fun hfr hl hf fun h1 s1 => ?_)
 refine wpAny_bind (wpAny_entryPlaceOf fun pl hpl => ?_)
 unfold EntryCells.newEntry newFields
 refine wpAny_bind (wpAny_newObj_type ?_ (hpl.sizeOk5 _ _ _ _ _))
 have e1 : h1.get? e = some oe := (s1.2.1 e ne).trans he
 generalize hts : ([head, .ref L, .none, rawInt L, .none] ++ (if pl.isEmpty then List.replicate 6 Value.none else pl)).toArray = ts
 have t3 : ts[3]? = some (rawInt L) := by rw [← hts]; simp
 have fresh : s.heap.get? h1.objs.size = none := by
  cases q : s.heap.get? h1.objs.size with
  | none => rfl
  | some o => have := Heap.lt_size q; rw [s1.1] at this; exact absurd this (Nat.lt_irrefl _)
 have e2 := Heap.get?_push_of_some (h := h1) { cls := .type "traceback", dict := none, data := .fields ts } e1
 have nT : h1.objs.size ≠ e := Nat.ne_of_gt (Heap.lt_size e1)
 have d3 := Obj.data_mapFields hd (·.setIfInBounds 1 (Value.ref h1.objs.size))
 have e3 := Heap.get?_update_self (Obj.mapFields (·.setIfInBounds 1 (Value.ref h1.objs.size))) e2 (Obj.isFreed_of_fields d3)
 have q3 := (Heap.get?_update_other (h1.push { cls := .type "traceback", dict := none, data := .fields ts }) (Obj.mapFields (·.setIfInBounds 1 (Value.ref h1.objs.size))) (Ne.symm nT)).trans (Heap.get?_push_size h1 rfl)
 refine wpAny_setField e2 hd hsz (k _ h1.objs.size _ _ _ _ _ fresh (fun b o hb nb nbe => ?_) (fun b o hb mb => ?_) e3 ⟨Obj.cls_mapFields _ _, jI _ _⟩ d3 (by simp [hsz]) nT q3 rfl t3)
 ·have hb1 : h1.get? b = some o := (s1.2.1 b nb).trans hb
  rw [Heap.get?_update_other _ _ (Ne.symm nbe)]
  exact Heap.get?_push_of_some _ hb1
 ·obtain ⟨sl, hb1⟩ := s1.2.2 b o hb
  refine ⟨sl, ?_⟩
  rw [Heap.get?_update_other _ _ (fun z => ne (by rw [z]; exact mb))]
  exact Heap.get?_push_of_some _ hb1
theorem fly_mid {bs : Heap} {env : Env} {outer : List Env} {L e : Addr} {cls : Value} {Nw : Addr → Prop} {H : Hp} {Q : Unit → Shared → Prop} (hfr : A.frames = some (env :: outer)) (hl : s.heap.FunFrames bs (env :: outer)) (hf : env.frame = some L)
  (F : Fly Nw s.heap H e cls) (hN : ∀ b, s.heap.get? b = none → Nw b) (hH : ∀ b, s.heap.get? b = none → H b = none)
  (k : ∀ h' ch, Recs Nw s.heap H ch → FlyG Nw h' H e cls → Noted (frs (env :: outer)) ch s.heap h' → Q () { s with heap := h' }) :
  wpAny M A (noteFrame (.ref e) env) Q E s := by
 obtain ⟨n, he0, oe, vs, he, ⟨hc, hdn⟩, hd, tr⟩ := F
 subst hc
 unfold noteFrame
 simp only [hf]
 rcases tr with h1 | ⟨T, oT, ts, h1, nT, hT0, hTe, hT, hdT, h3⟩
 ·refine wpAny_bind (wpAny_field he hd h1 ?_)
  rw [if_neg (by decide)]
  refine jK hfr hl hf he hd (Array.getElem?_eq_some_iff.mp h1).1 fun h' T oe' vs' oT ts v nT kp sl a1 a2 a3 a4 a5 a6 a7 a8 => ?_
  refine k h' [e] (fun b hb => by rw [List.mem_singleton.mp hb]; exact ⟨n, he0, oe, vs, he, hd⟩) ⟨n, he0, oe', vs', a1, ⟨a2.1, a2.2.trans hdn⟩, a3, T, oT, ts, v, a4, hN T nT, hH T nT, a5, a6, a7, a8⟩ ⟨fun b o hb nb c => kp b o hb nb fun z => c (by simp [z]), sl, fun b o hb => ?_⟩
  by_cases hm : b ∈ frs (env :: outer)
  ·obtain ⟨_, q⟩ := sl b o hb hm; exact ⟨_, q⟩
  ·by_cases hbe : b = e
   ·exact ⟨oe', by rw [hbe]; exact a1⟩
   ·exact ⟨o, kp b o hb hm hbe⟩
 ·refine wpAny_bind (wpAny_field he hd h1 ?_)
  rw [if_pos (show (Value.ref T != Value.none) = true from by simp)]
  refine wpAny_bind (wpAny_field hT hdT h3 ?_)
  rw [if_neg (show ¬ ((Value.none == rawInt L) = true) from by simp [rawInt])]
  refine wpAny_bind (wpAny_setField hT hdT (Array.getElem?_eq_some_iff.mp h3).1 ?_)
  have other : ∀ b, b ≠ T → (s.heap.update T (Obj.mapFields (·.setIfInBounds 3 Value.none))).get? b = s.heap.get? b := fun b hb => Heap.get?_update_other _ _ (Ne.symm hb)
  have nrec : ∀ b o, s.heap.get? b = some o → (∀ ws, o.data ≠ .fields ws) → b ≠ T := fun b o hb nf q => by
   rw [q, hT] at hb; cases hb; exact nf ts hdT
  have back : ∀ b, (s.heap.update T (Obj.mapFields (·.setIfInBounds 3 Value.none))).get? b = none → s.heap.get? b = none := fun b hb => by
   by_cases q : b = T
   ·subst q
    rw [Heap.get?_update_self _ hT (Obj.isFreed_of_fields (Obj.data_mapFields hdT _))] at hb; cases hb
   ·rw [other b q] at hb; exact hb
  refine jK hfr (hl.of_keeps fun b o hb nf => ⟨o, (other b (nrec b o hb nf)).trans hb, rfl⟩) hf ((other e (Ne.symm hTe)).trans he) hd (Array.getElem?_eq_some_iff.mp h1).1 fun h' T' oe' vs' oT' ts' v' nT' kp sl a1 a2 a3 a4 a5 a6 a7 a8 => ?_
  have nTf : T ∉ frs (env :: outer) := fun hm => by
   obtain ⟨_, o, ho, nf⟩ := hl.mem hm
   rw [hT] at ho; cases ho
   exact nf ts hdT
  refine k h' [e, T] (fun b hb => ?_) ⟨n, he0, oe', vs', a1, ⟨a2.1, a2.2.trans hdn⟩, a3, T', oT', ts', v', a4, hN T' (back _ nT'), hH T' (back _ nT'), a5, a6, a7, a8⟩ ⟨fun b o hb nb c => ?_, fun b o hb mb => ?_, fun b o hb => ?_⟩
  ·rcases List.mem_cons.mp hb with z | z
   ·rw [z]; exact ⟨n, he0, oe, vs, he, hd⟩
   ·rw [List.mem_singleton.mp z]; exact ⟨nT, hT0, oT, ts, hT, hdT⟩
  ·exact kp b o ((other b fun z => c (by simp [z])).trans hb) nb fun z => c (by simp [z])
  ·exact sl b o ((other b (by rintro rfl; exact nTf mb)).trans hb) mb
  ·by_cases hbT : b = T
   ·subst hbT
    have q := Heap.get?_update_self (Obj.mapFields (·.setIfInBounds 3 Value.none)) hT (Obj.isFreed_of_fields (Obj.data_mapFields hdT _))
    exact ⟨_, kp b _ q nTf hTe⟩
   ·by_cases hm : b ∈ frs (env :: outer)
    ·obtain ⟨_, q⟩ := sl b o ((other b hbT).trans hb) hm; exact ⟨_, q⟩
    ·by_cases hbe : b = e
     ·exact ⟨oe', by rw [hbe]; exact a1⟩
     ·exact ⟨o, kp b o ((other b hbT).trans hb) hm hbe⟩
theorem lY {e : Addr} {cls : Value} {fr : Option Addr} {Nw : Addr → Prop} {H : Hp} {Q : Unit → Shared → Prop} (F : FlyG Nw s.heap H e cls)
  (k : ∀ h' ch, Recs Nw s.heap H ch → FlyG Nw h' H e cls → (fr = none → Fly Nw h' H e cls) → Noted [] ch s.heap h' → Q () { s with heap := h' }) : wpAny M A (setFlight (.ref e) fr) Q E s := by
 obtain ⟨n, he0, oe, vs, he, hc, hd, T, oT, ts, v, h1, nT, hT0, hTe, hT, hdT, h3⟩ := F
 unfold setFlight
 refine wpAny_bind (wpAny_field he hd h1 ?_)
 rw [if_pos (show (Value.ref T != Value.none) = true from by simp)]
 have sz := (Array.getElem?_eq_some_iff.mp h3).1
 generalize hv : (fr.elim Value.none fun f => rawInt f) = x
 have d3 := Obj.data_mapFields hdT (·.setIfInBounds 3 x)
 have self := Heap.get?_update_self (Obj.mapFields (·.setIfInBounds 3 x)) hT (Obj.isFreed_of_fields d3)
 have other : ∀ b, b ≠ T → (s.heap.update T (Obj.mapFields (·.setIfInBounds 3 x))).get? b = s.heap.get? b := fun b hb => Heap.get?_update_other _ _ (Ne.symm hb)
 refine wpAny_setField hT hdT sz (k _ [T] (fun b hb => by rw [List.mem_singleton.mp hb]; exact ⟨nT, hT0, oT, ts, hT, hdT⟩) ⟨n, he0, oe, vs, (other e (Ne.symm hTe)).trans he, hc, hd, T, _, _, x, h1, nT, hT0, hTe, self, d3, by simp [sz]⟩ (fun z => ?_) ⟨fun b o hb _ c => (other b fun z => c (by simp [z])).trans hb, fun b o hb z => (nomatch z), fun b o hb => ?_⟩)
 ·subst z
  have : x = Value.none := hv.symm
  subst this
  exact ⟨n, he0, oe, vs, (other e (Ne.symm hTe)).trans he, hc, hd, .inr ⟨T, _, _, h1, nT, hT0, hTe, self, d3, by simp [sz]⟩⟩
 ·by_cases hbT : b = T
  ·subst hbT; exact ⟨_, self⟩
  ·exact ⟨o, (other b hbT).trans hb⟩
theorem nA {bs : Heap} {env : Env} {outer : List Env} {L e : Addr} {cls : Value} {Nw : Addr → Prop} {H : Hp} {Q : Unit → Shared → Prop} (hfr : A.frames = some (env :: outer)) (hl : s.heap.FunFrames bs (env :: outer)) (hf : env.frame = some L)
  (F : FlyG Nw s.heap H e cls) (hN : ∀ b, s.heap.get? b = none → Nw b) (hH : ∀ b, s.heap.get? b = none → H b = none)
  (k : ∀ h' ch, Recs Nw s.heap H ch → Fly Nw h' H e cls → Noted (frs (env :: outer)) ch s.heap h' → Q () { s with heap := h' }) :
  wpAny M A (noteFrame (.ref e) env) (fun _ s' => wpAny M A (setFlight (.ref e) none) Q E s') E s := by
 obtain ⟨n, he0, oe, vs, he, ⟨hc, hdn⟩, hd, T, oT, ts, v, h1, nT, hT0, hTe, hT, hdT, h3⟩ := id F
 subst hc
 unfold noteFrame
 simp only [hf]
 have nTf : T ∉ frs (env :: outer) := fun hm => by
  obtain ⟨_, o, ho, nf⟩ := hl.mem hm
  rw [hT] at ho; cases ho
  exact nf ts hdT
 refine wpAny_bind (wpAny_field he hd h1 ?_)
 rw [if_pos (show (Value.ref T != Value.none) = true from by simp)]
 refine wpAny_bind (wpAny_field hT hdT h3 ?_)
 by_cases hv : (v == rawInt L) = true
 ·rw [if_pos hv]
  refine wpAny_pure (lY F fun h' ch rc _ F2 nt => k h' ch rc (F2 rfl) ⟨fun b o hb _ c => nt.keep b o hb (fun z => nomatch z) c, fun b o hb mb => ?_, nt.there⟩)
  refine ⟨o.slots, nt.keep b o hb (fun z => nomatch z) fun z => ?_⟩
  obtain ⟨_, _, o', ws, e', d'⟩ := rc b z
  obtain ⟨_, o2, ho, nf⟩ := hl.mem mb
  rw [e'] at ho; cases ho
  exact nf ws d'
 ·rw [if_neg hv]
  refine wpAny_bind (wpAny_setField hT hdT (Array.getElem?_eq_some_iff.mp h3).1 ?_)
  have other : ∀ b, b ≠ T → (s.heap.update T (Obj.mapFields (·.setIfInBounds 3 Value.none))).get? b = s.heap.get? b := fun b hb => Heap.get?_update_other _ _ (Ne.symm hb)
  have nrec : ∀ b o, s.heap.get? b = some o → (∀ ws, o.data ≠ .fields ws) → b ≠ T := fun b o hb nf q => by
   rw [q, hT] at hb; cases hb; exact nf ts hdT
  have back : ∀ b, (s.heap.update T (Obj.mapFields (·.setIfInBounds 3 Value.none))).get? b = none → s.heap.get? b = none := fun b hb => by
   by_cases q : b = T
   ·subst q
    rw [Heap.get?_update_self _ hT (Obj.isFreed_of_fields (Obj.data_mapFields hdT _))] at hb; cases hb
   ·rw [other b q] at hb; exact hb
  refine eB hfr (hl.of_keeps fun b o hb nf => ⟨o, (other b (nrec b o hb nf)).trans hb, rfl⟩) hf ((other e (Ne.symm hTe)).trans he) hd (Array.getElem?_eq_some_iff.mp h1).1 fun h' T' oe' vs' oT' ts' nT' kp sl a1 a2 a3 a4 a5 a6 a7 a8 => ?_
  refine k h' [e, T] (fun b hb => ?_) ⟨n, he0, oe', vs', a1, ⟨a2.1, a2.2.trans hdn⟩, a3, .inr ⟨T', oT', ts', a4, hN T' (back _ nT'), hH T' (back _ nT'), a5, a6, a7, a8⟩⟩ ⟨fun b o hb nb c => ?_, fun b o hb mb => ?_, fun b o hb => ?_⟩
  ·rcases List.mem_cons.mp hb with z | z
   ·rw [z]; exact ⟨n, he0, oe, vs, he, hd⟩
   ·rw [List.mem_singleton.mp z]; exact ⟨nT, hT0, oT, ts, hT, hdT⟩
  ·exact kp b o ((other b fun z => c (by simp [z])).trans hb) nb fun z => c (by simp [z])
  ·exact sl b o ((other b (by rintro rfl; exact nTf mb)).trans hb) mb
  ·by_cases hbT : b = T
   ·subst hbT
    have q := Heap.get?_update_self (Obj.mapFields (·.setIfInBounds 3 Value.none)) hT (Obj.isFreed_of_fields (Obj.data_mapFields hdT _))
    exact ⟨_, kp b _ q nTf hTe⟩
   ·by_cases hm : b ∈ frs (env :: outer)
    ·obtain ⟨_, q⟩ := sl b o ((other b hbT).trans hb) hm; exact ⟨_, q⟩
    ·by_cases hbe : b = e
     ·exact ⟨oe', by rw [hbe]; exact a1⟩
     ·exact ⟨o, kp b o ((other b hbT).trans hb) hm hbe⟩
end
theorem FlyG.mono {N N' : Addr → Prop} {h : Heap} {H : Hp} {e : Addr} {cls : Value} (F : FlyG N h H e cls) (s : ∀ b, N b → N' b) : FlyG N' h H e cls := by
 obtain ⟨n, he, oe, vs, h1, h2, h3, T, oT, ts, v, a, b, r⟩ := F
 exact ⟨s _ n, he, oe, vs, h1, h2, h3, T, oT, ts, v, a, s _ b, r⟩
def ToG (X : Cx) (cl : Nat → Addr) (XE : Nat → St → Hp → Prop) : Prop :=
 ∀ (pins : List (Addr × Obj)) (σ : St) (H : Hp) (s : Shared) (a : Addr) (c : Nat), Inv X pins σ H s → FlyG (NewIn X) s.heap H a (.ref (cl c)) → XE c σ H → X.xe (.ref a) s
section
variable {P : Program} {w : World} {K : PySem.W.Frag} {mg : Str → Option Value} {base : Heap} {N : List Str} {qual : Str} {scope : Scope} {f : Addr} {cd : Value} {A : Around} {outer : List Env} {s : Shared} {H : Hp} {E : XK} {cl : Nat → Addr}
theorem tog_def : ToG (cxOf (CXE P w) P w K mg base N qual scope f cd A outer s H E) cl (fun c _ H' => E (.ref (cl c)) none H') := by
 intro pins σ H1 s1 a c I F hE
 show wpAny _ _ (leaving _ _) _ _ s1
 unfold leaving
 have F' : FlyG (fun b => s.heap.get? b = none) s1.heap H1 a (.ref (cl c)) := F.mono fun b z => z.1
 have back : ∀ b, s1.heap.get? b = none → s.heap.get? b = none := fun b hb => by
  cases q : s.heap.get? b with
  | none => rfl
  | some o =>
   obtain ⟨o', z⟩ := I.base.there b o q (fun z => nomatch z)
   rw [z] at hb; cases hb
 refine wpAny_bind (nA (outer := outer) I.ok.frames I.stack rfl F' back (fun b hb => I.hok.new hb) fun h' ch rc F2 n => ?_)
 have nloc : ∀ b o, s.heap.get? b = some o → b ∉ frs outer → b ∉ frs ((cxOf (CXE P w) P w K mg base N qual scope f cd A outer s H E).env :: outer) := fun b o hb nb hm => by
  have hm' : b ∈ s.heap.objs.size :: frs outer := hm
  rcases List.mem_cons.mp hm' with z | z
  ·subst z; exact absurd (Heap.lt_size hb) (Nat.lt_irrefl _)
  ·exact nb z
 have sub : ∀ b, b ∈ frs outer → b ∈ frs ((cxOf (CXE P w) P w K mg base N qual scope f cd A outer s H E).env :: outer) := fun b hb => show b ∈ s.heap.objs.size :: frs outer from List.mem_cons_of_mem _ hb
 have B : Un (frs outer) [] H H1 s.heap s1.heap := I.base
 refine ⟨a, cl c, H1, rfl, I.os, I.bare, ⟨fun b o q n1 nb nx => ?_, fun b o q n1 mb nx => ?_, B.free, fun b o q nx => ?_, B.tups, B.frzs, B.tbls⟩, I.hok.noted n (fun b hb => I.stkFree b hb) fun b hb => (rc b hb).2.1, F2, hE⟩
 ·exact n.keep b o (B.keep b o q n1 nb nx) (nloc b o q nb) fun z => by have y : s.heap.get? b = none := (rc b z).1; rw [q] at y; cases y
 ·obtain ⟨sl, z⟩ := B.slot b o q n1 mb nx
  obtain ⟨sl', z'⟩ := n.slot b _ z (sub b mb)
  exact ⟨sl', z'⟩
 ·obtain ⟨o', z⟩ := B.there b o q nx
  exact n.there b o' z
end
def PassC (X : Cx) (cl : Nat → Addr) (XO : Nat → Hp → Prop) : Prop := ∀ (pins : List (Addr × Obj)) (σ : St) (H : Hp) (s : Shared) (e : Value) (s' : Shared), Inv X pins σ H s → CXE X.prog X.w X.stack H s (fun k _ H' => ∃ c, k = .ref (cl c) ∧ XO c H') e s' → X.xe e s'
section
variable {X : Cx} {N' : List Str} {caps : List Nat} {ntg : Nat} {scope : Scope} {pins : List (Addr × Obj)} {σ : St} {clx : Nat → Addr} {XE : Nat → St → Hp → Prop}
theorem o5 {C a : Addr} {c : Nat} {H' : Hp} {s' : Shared} {m : Str → Option Value} {L : Addr} {cls : List (Str × Addr)} {acc : Value} {use : Option (Value → Sem Unit)} {Q : Value → Shared → Prop}
  (hst : X.stack = X.env :: X.outer) (hf : X.env.frame = some L) (tX : ToG X clx XE)
  (I : Inv X pins σ H' s') (hm : s'.heap.Ns C m) (hC : H' C = none) (hCL : C ≠ X.env.locals) (hCs : X.s₀.heap.objs.size ≤ C) (hCc : ∀ x c, X.env.cells.lookup x = some c → c ≠ C) (hCp : ∀ q ∈ X.pn ++ pins, q.1 ≠ C)
  (hN : ∀ b, s'.heap.get? b = none → X.s₀.heap.get? b = none ∧ ∀ q ∈ X.pn ++ pins, q.1 ≠ b)
  (F : Fly (fun b => X.s₀.heap.get? b = none ∧ ∀ q ∈ X.pn ++ pins, q.1 ≠ b) s'.heap H' a (.ref (clx c))) (xe : XE c σ H') :
  notedBy (model X.prog X.w) X.A (compEnvC scope cls C X.env) (fun e s'' => compPost (model X.prog X.w) X.A X.xe use Q acc C (.error e) s'') (.ref a) s' := by
 show wpAny _ X.A (noteFrame (.ref a) X.env) _ _ s'
 have hfr : X.A.frames = some (X.env :: X.outer) := by rw [← hst]; exact I.ok.frames
 have hl := I.stack
 rw [hst] at hl
 refine fly_mid hfr hl hf F hN (fun b hb => I.hok.new hb) fun h1 ch rc F1 n => ?_
 have I1 : Inv X pins σ H' { s' with heap := h1 } := I.noted (fs := frs (X.env :: X.outer)) (fun b hb => by rw [hst]; exact hb) n rc
 obtain ⟨oC, es, ep, ho, hd, r⟩ := id hm
 have nCch : C ∉ ch := fun z => by
  obtain ⟨_, _, o', ws, e', d'⟩ := rc C z
  rw [ho] at e'; cases e'
  rw [hd] at d'; cases d'
 obtain ⟨oC', ho', hd'⟩ : ∃ o', h1.get? C = some o' ∧ o'.data = oC.data := by
  by_cases hmem : C ∈ frs (X.env :: X.outer)
  ·obtain ⟨sl, z⟩ := n.slot C oC ho hmem; exact ⟨_, z, rfl⟩
  ·exact ⟨oC, n.keep C oC ho hmem nCch, rfl⟩
 refine ⟨m, ⟨oC', es, ep, ho', hd'.trans hd, r⟩, fun h2 sb cenv hc => ?_⟩
 have I2 : Inv X pins σ H' { s' with heap := h2 } := Inv.turned (s := { s' with heap := h1 }) (t' := s'.toks) (it := C) I1 (fun b o hb e => sb.extBut b o hb e) hC hCL (.inr hCs) hCc hCp
 obtain ⟨f1, f2, oe, vs, f3, f4, f5, T, oT, ts, v, f6, f7, f8, f9, f10, f11, f12⟩ := F1
 have nf : ∀ b o ws, h1.get? b = some o → o.data = .fields ws → b ≠ C := fun b o ws e d z => by
  subst z
  rw [ho'] at e; cases e
  rw [hd', hd] at d; cases d
 have f3' : h2.get? a = some oe := (sb.2 a (nf a oe vs f3 f5)).trans f3
 have F2 : FlyG (fun b => X.s₀.heap.get? b = none ∧ ∀ q ∈ X.pn ++ pins, q.1 ≠ b) h2 H' a (.ref (clx c)) := ⟨f1, f2, oe, vs, f3', f4, f5, T, oT, ts, v, f6, f7, f8, f9, (sb.2 T (nf T oT ts f10 f11)).trans f10, f11, f12⟩
 unfold PySem.passOn
 refine wpAny_bind (wpAny_field (s := { s' with heap := h2 }) f3' f5 f6 ?_)
 rw [if_neg (show ¬ ((Value.ref T == Value.none) = true) from by simp)]
 refine wpAny_bind (lY (s := { s' with heap := h2 }) F2 fun h3 ch3 rc3 F3 _ n3 => wpAny_throw ?_)
 have I3 := I2.noted (fs := []) (fun b hb => nomatch hb) n3 rc3
 exact tX pins σ H' _ a c I3 (F3.mono fun b z => ⟨z.1, fun q hq => z.2 q (List.mem_append_left _ hq)⟩) xe
theorem o6 {H2 : Hp} {s2 : Shared} {elt iter tg : Expr} {pos : Pos} {it : Addr} {fp : List Addr} {cl : List (Str × Addr)} {tn : Nat → Heap → Prop} {J : It} {g : TG} {tc : TT} {te : TE} {Q : Addr → Hp → Prop} {XO : Nat → Hp → Prop} {RR : Value → Addr → Result → Shared → Prop}
  (hc : X.calm = true) (I2 : Inv X pins σ H2 s2) (Sc : CompSc X N' caps ntg scope)
  (hin : ∀ x c, cl.lookup x = some c → X.env.cells.lookup x = some c) (hall : ∀ x, (x, NameKind.free) ∈ scope.names → ∃ c, cl.lookup x = some c)
  (T : Turn X.prog X.w X.K tg J fp it tn) (t2 : tn 0 s2.heap) (f2 : ∀ b ∈ fp, FpOk X pins H2 b)
  (hx : X.ex = []) (hg : ∀ C s H E, PG (cxComp X N' scope cl C s H fp E) tg g) (ht : ∀ C s H E, PTs (cxComp X N' scope cl C s H fp E) [] tc) (he : ∀ C s H E, PassC (cxComp X N' scope cl C s H fp E) clx XO → PE (cxComp X N' scope cl C s H fp E) elt te)
  (q : ∀ p, H2 p = none → tCompL J g tc te (Q p) (capS σ caps ntg) p (upd H2 p (.lst [])))
  (hR : ∀ p C s' H' m, Inv X pins σ H' s' → H2 p = none → s'.heap.Ns C m → H' C = none → s2.heap.objs.size < C → Q p H' → RR (.ref p) C (.ok .next) s')
  (hX : ∀ p C s' H' m a c, Inv X pins σ H' s' → s'.heap.Ns C m → H' C = none → s2.heap.objs.size < C → (∀ b, s'.heap.get? b = none → X.s₀.heap.get? b = none ∧ ∀ q ∈ X.pn ++ pins, q.1 ≠ b) → Fly (fun b => X.s₀.heap.get? b = none ∧ ∀ q ∈ X.pn ++ pins, q.1 ≠ b) s'.heap H' a (.ref (clx c)) → XO c H' → notedBy (model X.prog X.w) X.A (compEnvC scope cl C X.env) (fun e s'' => RR (.ref p) C (.error e) s'') (.ref a) s') :
  wpAny (model X.prog X.w) X.A (newList []) (fun acc s₃ => wpAny (model X.prog X.w) X.A (newFunctionEnv scope X.env.globals cl [] X.env.qual none .none (some X.env)) (fun cenv s₄ =>
   codeAny (model X.prog X.w) X.A (.compStart (.ListComp elt [⟨tg, iter, [], 0⟩] scope pos) 0 (.ref it) acc { cenv with scope := relabel scope X.env }) (RR acc cenv.locals) s₄) X.xe s₃) X.xe s2 := by
 refine wpAny_newObj_type (wpAny_newFunctionEnv Sc.ncell (by intro y hy; simp at hy) (fun h₁ hns₁ hsb₁ => ?_) Sc.kind)
 dsimp only at hns₁ hsb₁ ⊢
 generalize hs3 : ({ s2 with heap := s2.heap.push { cls := .type "list", dict := none, data := .seq ([] : List Value).toArray } } : Shared) = s3
 have e3 : s2.heap.push { cls := .type "list", dict := none, data := .seq ([] : List Value).toArray } = s3.heap := by rw [← hs3]
 rw [e3] at hns₁ hsb₁ ⊢
 have k1 : ∀ b o, s3.heap.get? b = some o → h₁.get? b = some o := fun b o e => hsb₁.extBut b o (Nat.ne_of_lt (Heap.lt_size e)) (Heap.get?_push_of_some _ e)
 have k0 : ∀ b o, s2.heap.get? b = some o → s3.heap.get? b = some o := fun b o e => by rw [← e3]; exact Heap.get?_push_of_some _ e
 have sz : s3.heap.objs.size = s2.heap.objs.size + 1 := by rw [← e3]; exact Heap.size_push ..
 have os3 : s3.os = s2.os := by rw [← hs3]
 have hp0 : H2 s2.heap.objs.size = none := I2.hok.fresh (Nat.le_refl _)
 let EE : Value → Shared → Prop := notedBy (model X.prog X.w) X.A (compEnvC scope cl s3.heap.objs.size X.env) (fun e s' => RR (.ref s2.heap.objs.size) s3.heap.objs.size (.error e) s')
 have IC := fI (E := EE) (tk := s2.toks + ([] : List (Str × Value)).length) (h1 := h₁) I2 Sc hin hall T t2 f2 rfl hs3.symm k1 hns₁
 have est : ({ s2 with heap := h₁, toks := s2.toks + ([] : List (Str × Value)).length } : Shared) = { s3 with heap := h₁, toks := s2.toks + ([] : List (Str × Value)).length } := by rw [← hs3]
 rw [est]
 have T1 : tn 0 h₁ := T.keep _ _ _ t2 fun b _ o e => k1 b o (k0 b o e)
 obtain ⟨W, ⟨m0, w0⟩, turn⟩ := q _ hp0
 have I3 : Inv X pins σ (upd H2 s2.heap.objs.size (.lst [])) s3 := by
  rw [← hs3]
  exact I2.lnew (ys := []) (its := []) (t' := s2.toks) .nil (Nat.zero_le _)
 have fp3 : ∀ b ∈ fp, upd H2 s2.heap.objs.size (.lst []) b = none := fun b hb => by
  obtain ⟨o, e, _⟩ := T.obj _ _ t2 b hb
  rw [aL (Nat.ne_of_lt (Heap.lt_size e))]
  exact (f2 b hb).1
 have fpC : ∀ b ∈ fp, b ≠ s3.heap.objs.size := fun b hb => by
  obtain ⟨o, e, _⟩ := T.obj _ _ t2 b hb
  exact Nat.ne_of_lt (Heap.lt_size (k0 b o e))
 have stat : ∀ {H' : Hp}, (∀ b ∈ fp, H' b = none) → ∀ b ∈ fp, FpOk (cxComp X N' scope cl s3.heap.objs.size s3 (upd H2 s2.heap.objs.size (.lst [])) fp EE) [] H' b := fun hn b hb =>
  ⟨hn b hb, fpC b hb, fun z => by
   rcases List.mem_cons.mp (I3.stkSub b z) with y | y
   ·exact (f2 b hb).2.1 y
   ·exact (f2 b hb).2.2.1 y, .inl hb, fun x c e => (f2 b hb).2.2.2.2.1 x c (hin x c e), fun p hp => absurd (show p ∈ ([] : List (Addr × Obj)) from hp) (by simp)⟩
 have u1 : Un (frs X.stack) fp H2 (upd H2 s2.heap.objs.size (.lst [])) s2.heap s3.heap := by
  rw [← e3]
  exact Un.laid (fun b u e => Heap.get?_push_of_some _ e) (Nat.le_refl _) hp0
 have nofp : ∀ b o, X.s₀.heap.get? b = some o → b ∉ fp := fun b o e hb => by
  rcases (f2 b hb).2.2.2.1 with z | z
  ·rw [hx] at z; exact nomatch z
  ·exact absurd (Heap.lt_size e) (Nat.not_lt.mpr z)
 have pass : PassC (cxComp X N' scope cl s3.heap.objs.size s3 (upd H2 s2.heap.objs.size (.lst [])) fp EE) clx XO := by
  rintro pinsC σC HC sC e sD IC' ⟨a, Cc, HD, rfl, os, bare, un, hok, F, c, ec, xo⟩
  have ec' : Cc = clx c := by simpa using ec
  subst ec'
  have I5 := IC'.call' os un hok bare fun b z => nomatch z
  obtain ⟨mm, hm, _⟩ := I5.loc
  have u2 : Un (frs X.stack) fp H2 HD s2.heap sD.heap := u1.trans I5.base
  have I6 : Inv X pins σ HD sD := I2.call' (ch := fp) (I5.os.trans os3) u2 I5.hok I5.bare fun b hb => ⟨(f2 b hb).2.2.2.1, (f2 b hb).2.1, (f2 b hb).2.2.2.2.1, (f2 b hb).2.2.2.2.2⟩
  have nw : ∀ (hh : Heap), (∀ b o, s3.heap.get? b = some o → b ∉ fp → ∃ o', hh.get? b = some o') → ∀ b, hh.get? b = none → X.s₀.heap.get? b = none ∧ ∀ q ∈ X.pn ++ pins, q.1 ≠ b := fun hh th b hb => by
   refine ⟨?_, fun q hq z => ?_⟩
   ·cases qo : X.s₀.heap.get? b with
    | none => rfl
    | some o =>
     obtain ⟨o1, z1⟩ := I2.base.there b o qo (by rw [hx]; exact fun z => nomatch z)
     obtain ⟨o2, z2⟩ := th b o1 (k0 b o1 z1) (nofp b o qo)
     rw [z2] at hb; cases hb
   ·have p1 := (I2.pin q hq).1
    obtain ⟨o2, z2⟩ := th q.1 q.2 (k0 _ _ p1) fun hb' => (f2 q.1 hb').2.2.2.2.2 q hq rfl
    rw [z, hb] at z2; cases z2
  have thC : ∀ b o, s3.heap.get? b = some o → b ∉ fp → ∃ o', sC.heap.get? b = some o' := fun b o e nb => IC'.base.there b o e nb
  have thD : ∀ b o, s3.heap.get? b = some o → b ∉ fp → ∃ o', sD.heap.get? b = some o' := fun b o e nb => I5.base.there b o e nb
  exact hX _ _ sD HD mm a c I6 hm I5.free (by rw [sz]; exact Nat.lt_succ_self _) (nw _ thD) (F.mono (nw _ thC)) xo
 have loop : codeAny (model X.prog X.w) X.A (.compLoop (.ListComp elt [⟨tg, iter, [], 0⟩] scope pos) 0 (.ref it) (.ref s2.heap.objs.size) (compEnvC scope cl s3.heap.objs.size X.env)) (RR (.ref s2.heap.objs.size) s3.heap.objs.size)
   { s3 with heap := h₁, toks := s2.toks + ([] : List (Str × Value)).length } := by
  refine dR (fun n s' => ∃ i σ' H', Inv (cxComp X N' scope cl s3.heap.objs.size s3 (upd H2 s2.heap.objs.size (.lst [])) fp EE) [] σ' H' s' ∧ tn i s'.heap ∧ (∀ b ∈ fp, H' b = none) ∧ W i n σ' H') ?_ m0 ⟨0, _, _, IC, T1, fp3, w0⟩
  rintro n s4 ⟨i, σ4, H4, I4, st4, fr4, w4⟩
  rcases turn i n σ4 H4 w4 with ⟨stop, qn⟩ | ⟨go, step⟩
  ·refine wpAny_mono (T.done (cxComp X N' scope cl s3.heap.objs.size s3 (upd H2 s2.heap.objs.size (.lst [])) fp EE) rfl rfl rfl hc i [] s4 σ4 H4 EE I4 (stat fr4) st4 stop) (fun r s5 ⟨hr, I5⟩ => ?_) fun _ _ z => z
   subst hr
   obtain ⟨mm, hm, _⟩ := I5.loc
   have u2 : Un (frs X.stack) fp H2 H4 s2.heap s5.heap := u1.trans I5.base
   have I6 : Inv X pins σ H4 s5 := I2.call' (ch := fp) (I5.os.trans os3) u2 I5.hok I5.bare fun b hb => ⟨(f2 b hb).2.2.2.1, (f2 b hb).2.1, (f2 b hb).2.2.2.2.1, (f2 b hb).2.2.2.2.2⟩
   exact hR _ _ s5 H4 mm I6 hp0 hm I5.free (by rw [sz]; exact Nat.lt_succ_self _) qn
  ·refine wpAny_mono (T.item (cxComp X N' scope cl s3.heap.objs.size s3 (upd H2 s2.heap.objs.size (.lst [])) fp EE) rfl rfl rfl hc i [] s4 σ4 H4 EE I4 (stat fr4) st4 go) (fun r s5 ⟨u, hr, h5⟩ => ?_) fun _ _ z => z
   subst hr
   refine wpAny_mono h5 (fun _ s6 ⟨x, H6, I6, r6, y6, st6, fr6⟩ => ?_) fun _ _ z => z
   have I6' := I6.pinned (stat fr6) (T.obj _ _ st6)
   have keepIt : ∀ {σ7 : St} {H7 : Hp} {s7 : Shared}, Inv (cxComp X N' scope cl s3.heap.objs.size s3 (upd H2 s2.heap.objs.size (.lst [])) fp EE) ([] ++ pinsAt fp s6.heap) σ7 H7 s7 → tn (i + 1) s7.heap ∧ ∀ b ∈ fp, H7 b = none := fun {σ7 H7 s7} I7 =>
    ⟨T.keep _ _ _ st6 fun b hb o e => (I7.pin (b, o) (List.mem_append_right _ (List.mem_append_right _ (bK hb e)))).1, fun b hb => by
     obtain ⟨o, e, d⟩ := T.obj _ _ st6 b hb
     exact (I7.pin (b, o) (List.mem_append_right _ (List.mem_append_right _ (bK hb e)))).2.1⟩
   refine wpAny_mono (hg _ _ _ EE _ s6 σ4 H6 x u _ I6' r6 (step x H6 y6)) (fun _ s7 ⟨σ7, H7, I7, q7⟩ => ?_) fun _ _ z => z
   refine wpAny_mono (ht _ _ _ EE _ s7 σ7 H7 _ I7 q7) (fun b s8 ⟨H8, I8, q8⟩ => ?_) fun _ _ z => z
   cases b with
   | true =>
    rw [if_pos rfl] at q8 ⊢
    refine wpAny_mono (he _ _ _ EE pass _ s8 σ7 H8 _ I8 q8) (fun v s9 ⟨y, H9, I9, r9, ys, m', hl, hz, hm, w9⟩ => ?_) fun _ _ z => z
    refine wpAny_mono (eA (X := (cxComp X N' scope cl s3.heap.objs.size s3 (upd H2 s2.heap.objs.size (.lst [])) fp EE)) _ s9 σ7 H9 (.ref s2.heap.objs.size) [y] (.ref s2.heap.objs.size) [v] (fun _ H => W (i + 1) m' σ7 H) I9 rfl (.cons r9 .nil) ⟨_, ys, y, rfl, rfl, hl, hz, w9⟩) (fun _ s10 ⟨_, H10, I10, _, w10⟩ => ?_) fun _ _ z => z
    exact ⟨m', hm, i + 1, σ7, H10, I10.unpinned, (keepIt I10).1, (keepIt I10).2, w10⟩
   | false =>
    rw [if_neg Bool.false_ne_true] at q8 ⊢
    obtain ⟨m', hm, w8⟩ := q8
    exact ⟨m', hm, i + 1, σ7, H8, I8.unpinned, (keepIt I8).1, (keepIt I8).2, w8⟩
 exact codeAny_compStart_list loop (T.self _ _ _ _ _ T1 loop)
theorem iM {L : Addr} {i : Nat} {y : Str} {py spos : Pos} {elt iter tg : Expr} {pos : Pos} {wi : TI} {g : TG} {tc : TT} {te : TE} (hN : X.N.Nodup) (hy : X.N[i]? = some y) (hxy : Loc X.env.scope y)
  (hf : X.fn y = true ∨ X.env.scope.names.lookup y = some .local)
  (hsw : swapsWith (.ListComp elt [⟨tg, iter, [], 0⟩] scope pos) (some (.Name y py)) spos.line X.env = pure true)
  (hc : X.calm = true) (hi : PI X tg iter wi) (Sc : CompSc X N' caps ntg scope)
  (hx : X.ex = []) (hst : X.stack = X.env :: X.outer) (hfm : X.env.frame = some L) (tX : ToG X clx XE)
  (hg : ∀ cl C s H fp E, PG (cxComp X N' scope cl C s H fp E) tg g) (ht : ∀ cl C s H fp E, PTs (cxComp X N' scope cl C s H fp E) [] tc) (he : ∀ σ cl C s H fp E, PassC (cxComp X N' scope cl C s H fp E) clx (fun c H' => XE c σ H') → PE (cxComp X N' scope cl C s H fp E) elt te)
  (hs : ∀ x, foldedSetIterable iter X.env x = pure x) : PS X (.Assign [.Name y py] (.ListComp elt [⟨tg, iter, [], 0⟩] scope pos) spos) (tAsg (tComp wi g tc te caps ntg) (gName i)) := by
 intro pins s σ H D I h
 rw [exec_Assign_Name_used _ _ _ _ hsw]
 refine wpAny_bind (wpAny_standAt (wpAny_bind ?_))
 show wpAny _ X.A (do let _ ← comprehension (.ListComp elt [⟨tg, iter, [], 0⟩] scope pos) scope X.env _ (newList []) false (eval iter X.env) (some (assign (.Name y py) X.env))) _ _ s
 obtain ⟨cl, hcl, hin, hall⟩ := dF I.ok Sc
 refine wpAny_bind (wpAny_mono (wpAny_comprehension_free (use := some (assign (.Name y py) X.env)) (Q := fun _ s' => SP X pins D .next s') rfl hs hcl Sc.kind Sc.loc
  (thn (hi pins s σ H _ I h) fun v s1 h1 => thn h1 fun itv s2 h2 => ?_)) (fun _ s' hq => wpAny_pure (wpAny_pure hq)) fun _ _ e => e)
 obtain ⟨it, fp, tn, J, H2, rfl, I2, T, t2, f2, q2⟩ := h2
 refine o6 (clx := clx) (XO := fun c H' => XE c σ H') (RR := fun acc C => compPost (model X.prog X.w) X.A X.xe (some (assign (.Name y py) X.env)) (fun _ s' => SP X pins D .next s') acc C) (Q := fun p H' => D.nx (σ.set i (some (.ref p))) H') hc I2 Sc hin hall T t2 f2 hx (fun C s H E => hg cl C s H fp E) (fun C s H E => ht cl C s H fp E) (fun C s H E z => he σ cl C s H fp E z) q2 ?_ ?_
 ·intro p C s' H' m I' hp hm hC hlt hq
  have hLC : C ≠ X.env.locals := Nat.ne_of_gt (Nat.lt_trans I2.lt hlt)
  have hCc : ∀ x c, X.env.cells.lookup x = some c → c ≠ C := fun x c e z => by
   obtain ⟨v, w⟩ := I2.cell x c e
   exact absurd (Nat.lt_trans w.lt (by rw [z]; exact hlt)) (Nat.lt_irrefl _)
  have hCp : ∀ q ∈ X.pn ++ pins, q.1 ≠ C := fun q hq z => absurd (Nat.lt_trans (Heap.lt_size (I2.pin q hq).1) (by rw [z]; exact hlt)) (Nat.lt_irrefl _)
  have hCs : X.s₀.heap.objs.size ≤ C := Nat.le_of_lt (Nat.lt_of_le_of_lt I2.sz hlt)
  obtain ⟨oC, es, ep, ho, hd, r⟩ := id hm
  have I'' : Inv X (pins ++ [(C, oC)]) σ H' s' := I'.pins_of fun q hq => by
   rcases List.mem_append.mp hq with z | z
   ·exact I'.pin q (List.mem_append_right _ z)
   ·have : q = (C, oC) := by simpa using z
    subst this
    exact ⟨ho, hC, hLC, I2.nofs (Nat.le_of_lt hlt), fun v z => by rw [hd] at z; cases z⟩
  show wpAny _ X.A (assign (.Name y py) X.env (.ref p)) _ _ s'
  refine thn (dL hN hy hxy hf (pins ++ [(C, oC)]) s' σ H' (.ref p) (.ref p) _ I'' rfl hq) fun _ s8 ⟨σ8, H8, I8, q8⟩ => ?_
  have hC8 := (I8.pin (C, oC) (List.mem_append_right _ (List.mem_append_right _ (by simp))))
  refine ⟨m, ⟨oC, es, ep, hC8.1, hd, r⟩, fun h' sb => ⟨σ8, H8, ?_, q8⟩⟩
  exact (I8.unpinned).turned (t' := s8.toks) (it := C) (fun b o hb e => sb.extBut b o hb e) hC8.2.1 hLC (.inr hCs) hCc hCp
 ·intro p C s' H' m a c I' hm hC hlt hN F xo
  exact o5 (cls := cl) hst hfm tX I' hm hC (Nat.ne_of_gt (Nat.lt_trans I2.lt hlt)) (Nat.le_of_lt (Nat.lt_of_le_of_lt I2.sz hlt)) (fun x c e z => by
   obtain ⟨v, w⟩ := I2.cell x c e
   exact absurd (Nat.lt_trans w.lt (by rw [z]; exact hlt)) (Nat.lt_irrefl _)) (fun q hq z => absurd (Nat.lt_trans (Heap.lt_size (I2.pin q hq).1) (by rw [z]; exact hlt)) (Nat.lt_irrefl _)) hN F xo
end
end L2
namespace Py
inductive D where
 | non | bl (b : Bool) | int (i : Int) | str (x : List Nat)
 | tup (xs : List D) | lst (xs : List D) | dic (ks : List Int) (vs : List D) | exn (c : Nat) | scr (ns : List Int)
inductive R (α : Type) where
 | ok (a : α) | exc (c : Nat) | bad
noncomputable def R.bind {α β : Type} (r : R α) (f : α → R β) : R β := match r with
 | .ok a => f a | .exc c => .exc c | .bad => .bad
@[simp] theorem R.bind_ok {α β : Type} (a : α) (f : α → R β) : (R.ok a).bind f = f a := rfl
@[simp] theorem R.bind_exc {α β : Type} (c : Nat) (f : α → R β) : (R.exc c : R α).bind f = .exc c := rfl
noncomputable def R.quiet {α : Type} : R α → R α
 | .exc _ => .bad
 | r => r
@[simp] theorem R.quiet_ok {α : Type} (a : α) : (R.ok a).quiet = .ok a := rfl
@[simp] theorem R.bind_bad {α β : Type} (f : α → R β) : (R.bad : R α).bind f = .bad := rfl
noncomputable abbrev LIM : Nat := 100000
mutual
noncomputable def eqD : D → D → Bool
 | .non, .non => true
 | .bl a, .bl b => a == b
 | .int a, .int b => a == b
 | .bl a, .int b => (if a then 1 else 0) == b
 | .int a, .bl b => a == (if b then 1 else 0)
 | .str a, .str b => a == b
 | .tup a, .tup b => eqDs a b
 | .lst a, .lst b => eqDs a b
 | _, _ => false
noncomputable def eqDs : List D → List D → Bool
 | [], [] => true
 | a :: as, b :: bs => eqD a b && eqDs as bs
 | _, _ => false
end
mutual
noncomputable def pln (n : Nat) : D → Bool
 | .tup a => decide (0 < n) && plns (n - 1) a
 | .lst a => decide (0 < n) && plns (n - 1) a
 | .dic _ _ => false
 | .exn _ => false
 | .scr _ => false
 | _ => true
noncomputable def plns (n : Nat) : List D → Bool
 | [] => true
 | a :: as => pln n a && plns n as
end
noncomputable def flat : D → Bool
 | .non => true | .bl _ => true | .int _ => true | .str _ => true
 | _ => false
noncomputable def ixD (n : Nat) (i : Int) : Option Nat := if 0 ≤ i then (if i < n then some i.toNat else none) else if -(n : Int) ≤ i then some (i + n).toNat else none
noncomputable def atD {α : Type} (xs : List α) (i : Int) : Option α := (ixD xs.length i).bind fun j => xs[j]?
noncomputable def sIx (n d : Nat) : Option Int → Nat
 | none => d
 | some i => if i < 0 then (i + (n : Int)).toNat else min i.toNat n
noncomputable def cut {α : Type} (xs : List α) (lo hi : Option Int) : List α := (xs.drop (sIx xs.length 0 lo)).take (sIx xs.length xs.length hi - sIx xs.length 0 lo)
inductive Op1 where
 | not | neg | len | list | tuple | isNone | isNotNone | isInt | isBool | isTup | isLst | isStr | isExn (cs : List Bool) | sum | any | all | toInt | nset | minL | maxL | show | parse | slen
inductive Op2 where
 | add | sub | mul | mod | fdiv | pow | eq | ne | lt | le | gt | ge | isIn | notIn | at | index | count | min | max | rep | cat | join | split | chr | inS
noncomputable def truth : D → R Bool
 | .non => .ok false
 | .bl b => .ok b
 | .int i => .ok (decide (i ≠ 0))
 | .str _ => .bad
 | .tup xs => .ok (!xs.isEmpty)
 | .lst xs => .ok (!xs.isEmpty)
 | .dic _ _ => .bad
 | .exn _ => .bad
 | .scr _ => .bad
noncomputable def ofO : Option D → R D
 | some d => .ok d
 | none => .bad
noncomputable def lookD : List Int → List D → Int → Option D
 | k :: ks, v :: vs, i => if k = i then some v else lookD ks vs i
 | _, _, _ => none
noncomputable def sumI : List D → Option Int
 | [] => some 0
 | .int i :: r => (sumI r).map (i + ·)
 | _ => none
noncomputable def isBl : D → Bool
 | .bl _ => true
 | _ => false
noncomputable def smallI : D → Bool
 | .int i => decide (-1000000 ≤ i ∧ i ≤ 1000000)
 | _ => false
noncomputable def anyB : List D → Option Bool
 | [] => some false
 | .bl b :: r => if b then some true else anyB r
 | _ => none
noncomputable def allB : List D → Option Bool
 | [] => some true
 | .bl b :: r => if b then allB r else some false
 | _ => none
noncomputable def intsOf : List D → Option (List Int)
 | [] => some []
 | .int i :: r => (intsOf r).map (i :: ·)
 | _ => none
noncomputable def strsOf : List D → Option (List (List Nat))
 | [] => some []
 | .str x :: r => (strsOf r).map (x :: ·)
 | _ => none
noncomputable def dist : List Int → List Int
 | [] => []
 | x :: r => x :: (dist r).filter fun y => decide (y ≠ x)
noncomputable def minI (x : Int) (r : List Int) : Int := r.foldl (fun a b => if b < a then b else a) x
noncomputable def maxI (x : Int) (r : List Int) : Int := r.foldl (fun a b => if b > a then b else a) x
noncomputable def nsetR : Option (List Int) → R D
 | some r => if r.length ≤ 100 then .ok (.int (dist r).length) else .bad
 | none => .bad
noncomputable def minR : Option (List Int) → R D
 | some (x :: r) => if r.length ≤ 1000 then .ok (.int (minI x r)) else .bad
 | _ => .bad
noncomputable def maxR : Option (List Int) → R D
 | some (x :: r) => if r.length ≤ 1000 then .ok (.int (maxI x r)) else .bad
 | _ => .bad
noncomputable def showI (i : Int) : List Nat := (toString i).toList.map Char.toNat
noncomputable def digs (x : List Nat) : Bool := x.all fun c => decide (48 ≤ c ∧ c ≤ 57)
noncomputable def readI (x : List Nat) : Int := x.foldl (fun (a : Int) (c : Nat) => 10 * a + ((c : Nat) - 48 : Int)) 0
noncomputable def joinS (s : List Nat) : List (List Nat) → List Nat
 | [] => []
 | [x] => x
 | x :: r => x ++ s ++ joinS s r
noncomputable def joinR (s : List Nat) : Option (List (List Nat)) → R D
 | some ys => if (ys.map List.length).sum + ys.length * s.length ≤ LIM then .ok (.str (joinS s ys)) else .bad
 | none => .bad
noncomputable def splitGo (s : List Nat) : Nat → List Nat → List Nat → List (List Nat)
 | _, cur, [] => [cur]
 | n + 1, cur, _ :: r => splitGo s n cur r
 | 0, cur, c :: r => if s.isPrefixOf (c :: r) then cur :: splitGo s (s.length - 1) [] r else splitGo s 0 (cur ++ [c]) r
noncomputable def splitS (s x : List Nat) : List (List Nat) := splitGo s 0 [] x
noncomputable def ascii (x : List Nat) : Bool := x.all fun c => decide (c < 128)
noncomputable def op1 : Op1 → D → R D
 | .not, d => (truth d).bind fun b => .ok (.bl (!b))
 | .neg, .int i => .ok (.int (-i))
 | .len, .lst xs => .ok (.int xs.length)
 | .len, .tup xs => .ok (.int xs.length)
 | .len, .scr xs => .ok (.int xs.length)
 | .list, .lst xs => .ok (.lst xs)
 | .list, .tup xs => .ok (.lst xs)
 | .tuple, .lst xs => .ok (.tup xs)
 | .tuple, .tup xs => .ok (.tup xs)
 | .isNone, .non => .ok (.bl true)
 | .isNone, d => if pln 1000 d then .ok (.bl false) else .bad
 | .isNotNone, .non => .ok (.bl false)
 | .isNotNone, d => if pln 1000 d then .ok (.bl true) else .bad
 | .isInt, .int _ => .ok (.bl true)
 | .isInt, .bl _ => .ok (.bl true)
 | .isInt, d => if pln 1000 d then .ok (.bl false) else .bad
 | .isBool, .bl _ => .ok (.bl true)
 | .isBool, d => if pln 1000 d then .ok (.bl false) else .bad
 | .isTup, d => if pln 1000 d then .ok (.bl (match d with | .tup _ => true | _ => false)) else .bad
 | .isLst, d => if pln 1000 d then .ok (.bl (match d with | .lst _ => true | _ => false)) else .bad
 | .isStr, d => if pln 1000 d then .ok (.bl (match d with | .str _ => true | _ => false)) else .bad
 | .isExn cs, .exn c => ofO ((cs[c]?).map .bl)
 | .sum, .lst xs => if xs.length ≤ 1000 ∧ xs.all smallI = true then ofO ((sumI xs).map .int) else .bad
 | .any, .lst xs => if xs.all isBl = true then ofO ((anyB xs).map .bl) else .bad
 | .all, .lst xs => if xs.all isBl = true then ofO ((allB xs).map .bl) else .bad
 | .toInt, .bl b => .ok (.int (if b then 1 else 0))
 | .toInt, .int i => .ok (.int i)
 | .nset, .lst xs => nsetR (intsOf xs)
 | .minL, .lst xs => minR (intsOf xs)
 | .maxL, .lst xs => maxR (intsOf xs)
 | .show, .int i => if i.natAbs < 10 ^ 500 then .ok (.str (showI i)) else .bad
 | .parse, .str x => if x.length ≤ 600 ∧ x ≠ [] ∧ digs x = true then .ok (.int (readI x)) else .bad
 | .slen, .str x => if x.length ≤ LIM then .ok (.int x.length) else .bad
 | _, _ => .bad
noncomputable def inD (x : D) (xs : List D) : Bool := xs.any fun y => eqD y x
noncomputable def idxD (x : D) : List D → Option Nat
 | [] => none
 | y :: r => if eqD y x then some 0 else (idxD x r).map (· + 1)
noncomputable def isin (x : D) : D → R Bool
 | .lst xs => if flat x && xs.all flat then .ok (inD x xs) else .bad
 | .tup xs => if flat x && xs.all flat then .ok (inD x xs) else .bad
 | _ => .bad
noncomputable def kin : D → D → Bool
 | .tup _, .tup _ => true
 | .lst _, .lst _ => true
 | .int _, .int _ => true
 | .bl _, .bl _ => true
 | .str _, .str _ => true
 | _, _ => false
noncomputable def op2 : Op2 → D → D → R D
 | .add, .int i, .int j => .ok (.int (i + j))
 | .add, .lst a, .lst b => if a.length + b.length ≤ LIM then .ok (.lst (a ++ b)) else .bad
 | .add, .tup a, .tup b => if a.length + b.length ≤ LIM then .ok (.tup (a ++ b)) else .bad
 | .sub, .int i, .int j => .ok (.int (i - j))
 | .mul, .int i, .int j => if (-(2 ^ 64) < i ∧ i < 2 ^ 64) ∨ (-(2 ^ 64) < j ∧ j < 2 ^ 64) then .ok (.int (i * j)) else .bad
 | .mod, .int i, .int j => if 0 < j then .ok (.int (i % j)) else .bad
 | .fdiv, .int i, .int j => if 0 < j ∧ j < 1073741824 then .ok (.int (i / j)) else .bad
 | .pow, .int i, .int j => if 0 ≤ j ∧ j ≤ 1000000 ∧ i.natAbs < 2 ^ 64 then .ok (.int (i ^ j.toNat)) else .bad
 | .eq, a, b => if pln 9 a && pln 9 b && kin a b then .ok (.bl (eqD a b)) else .bad
 | .ne, a, b => if pln 9 a && pln 9 b && kin a b then .ok (.bl (!eqD a b)) else .bad
 | .lt, .int i, .int j => .ok (.bl (decide (i < j)))
 | .le, .int i, .int j => .ok (.bl (decide (i ≤ j)))
 | .gt, .int i, .int j => .ok (.bl (decide (j < i)))
 | .ge, .int i, .int j => .ok (.bl (decide (j ≤ i)))
 | .isIn, x, y => (isin x y).bind fun b => .ok (.bl b)
 | .notIn, x, y => (isin x y).bind fun b => .ok (.bl (!b))
 | .at, .lst xs, .int i => ofO (atD xs i)
 | .at, .tup xs, .int i => ofO (atD xs i)
 | .at, .scr xs, .int i => ofO ((atD xs i).map .int)
 | .index, .lst xs, x => if flat x && xs.all flat then ofO ((idxD x xs).map fun n => .int n) else .bad
 | .count, .lst xs, x => if flat x && xs.all flat then .ok (.int (xs.countP fun y => eqD y x)) else .bad
 | .min, .int i, .int j => .ok (.int (if j < i then j else i))
 | .max, .int i, .int j => .ok (.int (if j > i then j else i))
 | .cat, .str a, .str b => if a.length + b.length ≤ LIM then .ok (.str (a ++ b)) else .bad
 | .join, .str s, .lst xs => joinR s (strsOf xs)
 | .split, .str x, .str s => if x.length ≤ LIM ∧ s ≠ [] ∧ ascii x = true ∧ ascii s = true then .ok (.lst ((splitS s x).map .str)) else .bad
 | .chr, .str x, .int i => if x.length ≤ LIM then ofO ((atD x i).map fun c => .str [c]) else .bad
 | .inS, .str [c], .str y => if y.length ≤ LIM ∧ ascii y = true then .ok (.bl (decide (c ∈ y))) else .bad
 | .rep, .lst xs, .int j => if 0 ≤ j ∧ j ≤ 1000 ∧ xs.length = 1 then .ok (.lst ((List.replicate j.toNat xs).flatten)) else .bad
 | _, _, _ => .bad
noncomputable def slc (x : D) (l h : Option Int) : R D := match x with
 | .lst xs => .ok (.lst (cut xs l h))
 | .tup xs => .ok (.tup (cut xs l h))
 | _ => .bad
noncomputable def asI : D → R (Option Int)
 | .int i => .ok (some i)
 | _ => .bad
inductive IterK where
 | seq | rng | rng2 | enum | zip | vals | chars
mutual
inductive Ex where
 | var (i : Nat)
 | cst (d : D)
 | glob (g : Nat)
 | op1 (o : Op1) (a : Ex)
 | op2 (o : Op2) (a b : Ex)
 | not (a : Ex)
 | and (a b : Ex)
 | or (a b : Ex)
 | ite (c : Tx) (a b : Ex)
 | tup (es : List Ex)
 | lst (es : List Ex)
 | slc (a : Ex) (lo hi : Option Ex)
 | call (f : Nat) (es : List Ex)
 | mapx (it : Ex) (caps : List Nat) (f : Nat) (es : List Ex)
 | comp (k : IterK) (its : List Ex) (caps : List Nat) (ntg : Nat) (cond : Option Tx) (elt : Ex)
 | get (a b c : Ex)
 | dget (a b : Ex)
 | din (neg : Bool) (x a : Ex)
 | dlen (a : Ex)
inductive Tx where
 | leaf (e : Ex)
 | not (a : Tx)
 | and (a b : Tx)
 | or (a b : Tx)
end
noncomputable abbrev Slot := Option (Bool × D)
noncomputable abbrev Sto := List Slot
noncomputable def rdV (δ : Sto) (i : Nat) : R D := match δ[i]? with
 | some (some (false, d)) => .ok d
 | _ => .bad
noncomputable def rdR (δ : Sto) (i : Nat) : R D := match δ[i]? with
 | some (some (_, d)) => .ok d
 | _ => .bad
noncomputable def rangeD (lo : Int) (n : Nat) : List D := (List.range n).map fun (k : Nat) => D.int (lo + k)
noncomputable def enumD (n : Nat) : List D → List D
 | [] => []
 | x :: r => .tup [.int n, x] :: enumD (n + 1) r
noncomputable def zipD : List D → List D → List D
 | x :: xs, y :: ys => .tup [x, y] :: zipD xs ys
 | _, _ => []
noncomputable def items0 : IterK → List D → R (List D)
 | .seq, [.lst xs] => .ok xs
 | .seq, [.tup xs] => .ok xs
 | .rng, [.int n] => if -LIM ≤ n ∧ n ≤ LIM then .ok (rangeD 0 n.toNat) else .bad
 | .rng2, [.int m, .int n] => if -LIM ≤ m ∧ m ≤ LIM ∧ -LIM ≤ n ∧ n ≤ LIM then .ok (rangeD m (n - m).toNat) else .bad
 | .enum, [.tup xs] => .ok (enumD 0 xs)
 | .zip, [.lst xs, .lst ys] => .ok (zipD xs ys)
 | .vals, [.dic _ vs] => .ok vs
 | .chars, [.str x] => if ascii x = true then .ok (x.map fun c => .str [c]) else .bad
 | _, _ => .bad
noncomputable def itemsD (k : IterK) (ss : List D) : R (List D) := (items0 k ss).bind fun xs => if xs.length ≤ LIM then .ok xs else .bad
noncomputable def spread : Nat → D → Option (List D)
 | 1, d => some [d]
 | n + 2, .tup xs => if xs.length = n + 2 then some xs else none
 | _, _ => none
noncomputable def capOf (δ : Sto) (caps : List Nat) : Sto := caps.map fun i => (δ[i]?).getD none
noncomputable def compM (f : D → R (Option D)) : List D → R (List D)
 | [] => .ok []
 | x :: r => (f x).bind fun o => (compM f r).bind fun ys => .ok (match o with | some y => y :: ys | none => ys)
noncomputable def asB : D → R Bool
 | .bl b => .ok b
 | _ => .bad
section
variable (Φ : Nat → List D → R D) (G : List D)
mutual
noncomputable def ev (m : Bool) : Ex → Sto → R D
 | .var i, δ => if m then rdR δ i else rdV δ i
 | .cst d, _ => .ok d
 | .glob g, _ => ofO G[g]?
 | .op1 o a, δ => (ev true a δ).bind fun x => op1 o x
 | .op2 o a b, δ => (ev true a δ).bind fun x => (ev true b δ).bind fun y => op2 o x y
 | .not a, δ => (ev true a δ).bind fun x => (asB x).bind fun t => .ok (.bl (!t))
 | .and a b, δ => (ev true a δ).bind fun x => (asB x).bind fun t => if t then ev false b δ else .ok (.bl false)
 | .or a b, δ => (ev true a δ).bind fun x => (asB x).bind fun t => if t then .ok (.bl true) else ev false b δ
 | .ite c a b, δ => (evT c δ).bind fun t => if t then ev false a δ else ev false b δ
 | .tup es, δ => (evs false es δ).bind fun xs => .ok (.tup xs)
 | .lst es, δ => (evs false es δ).bind fun xs => .ok (.lst xs)
 | .slc a lo hi, δ => (ev true a δ).bind fun x => (evP lo δ).bind fun l => (evP hi δ).bind fun h => slc x l h
 | .call f es, δ => (evs false es δ).bind fun xs => Φ f xs
 | .mapx it caps f es, δ => (ev true it δ).bind fun s => (itemsD .seq [s]).bind fun xs =>
   (compM (fun x => (evs false es (some (false, x) :: capOf δ caps)).bind fun as => (Φ f as).bind fun y => .ok (some y)) xs).bind fun ys => .ok (.lst ys)
 | .comp k its caps ntg cond elt, δ => (evs true its δ).bind fun ss => (itemsD k ss).bind fun xs =>
   (compM (fun x => match spread ntg x with
    | none => .bad
    | some ts =>
     (evO cond (ts.map (fun t => some (false, t)) ++ capOf δ caps)).bind fun b =>
      if b then (ev false elt (ts.map (fun t => some (false, t)) ++ capOf δ caps)).bind fun y => .ok (some y) else .ok none) xs).quiet.bind fun ys => .ok (.lst ys)
 | .get a b c, δ => (ev true a δ).bind fun x => (ev true b δ).bind fun y => (ev false c δ).bind fun z => match x, y with
   | .dic ks vs, .int i => .ok ((lookD ks vs i).getD z)
   | _, _ => .bad
 | .dget a b, δ => (ev true a δ).bind fun x => (ev true b δ).bind fun y => match x, y with
   | .dic ks vs, .int i => ofO (lookD ks vs i)
   | _, _ => .bad
 | .din neg b a, δ => (ev true b δ).bind fun y => (ev true a δ).bind fun x => match x, y with
   | .dic ks _, .int i => .ok (.bl (if neg then !decide (i ∈ ks) else decide (i ∈ ks)))
   | _, _ => .bad
 | .dlen a, δ => (ev true a δ).bind fun x => match x with
   | .dic ks _ => .ok (.int ks.length)
   | _ => .bad
noncomputable def evs (m : Bool) : List Ex → Sto → R (List D)
 | [], _ => .ok []
 | e :: es, δ => (ev m e δ).bind fun x => (evs m es δ).bind fun xs => .ok (x :: xs)
noncomputable def evP : Option Ex → Sto → R (Option Int)
 | none, _ => .ok none
 | some e, δ => (ev true e δ).bind fun x => asI x
noncomputable def evO : Option Tx → Sto → R Bool
 | none, _ => .ok true
 | some c, δ => evT c δ
noncomputable def evT : Tx → Sto → R Bool
 | .leaf e, δ => (ev true e δ).bind fun x => truth x
 | .not a, δ => (evT a δ).bind fun t => .ok (!t)
 | .and a b, δ => (evT a δ).bind fun t => if t then evT b δ else .ok false
 | .or a b, δ => (evT a δ).bind fun t => if t then .ok true else evT b δ
end
end
mutual
noncomputable def leaks (m : Bool) : Ex → List Nat
 | .var i => if m then [] else [i]
 | .op1 _ a => leaks true a
 | .op2 _ a b => leaks true a ++ leaks true b
 | .not a => leaks true a
 | .and a b => leaks true a ++ leaks false b
 | .or a b => leaks true a ++ leaks false b
 | .ite c a b => leaksT c ++ leaks false a ++ leaks false b
 | .tup es => leakss false es
 | .lst es => leakss false es
 | .slc a l h => leaks true a ++ leaksP l ++ leaksP h
 | .call _ es => leakss false es
 | .mapx it caps _ es => leaks true it ++ ((leakss false es).filterMap fun i => if i < 1 then none else caps[i - 1]?)
 | .comp _ its caps n cond elt => leakss true its ++ ((leaksO cond ++ leaks false elt).filterMap fun i => if i < n then none else caps[i - n]?)
 | .get a b c => leaks true a ++ leaks true b ++ leaks false c
 | .dget a b => leaks true a ++ leaks true b
 | .din _ a b => leaks true a ++ leaks true b
 | .dlen a => leaks true a
 | _ => []
noncomputable def leakss (m : Bool) : List Ex → List Nat
 | [] => []
 | e :: es => leaks m e ++ leakss m es
noncomputable def leaksP : Option Ex → List Nat
 | none => []
 | some e => leaks true e
noncomputable def leaksO : Option Tx → List Nat
 | none => []
 | some c => leaksT c
noncomputable def leaksT : Tx → List Nat
 | .leaf e => leaks true e
 | .not a => leaksT a
 | .and a b => leaksT a ++ leaksT b
 | .or a b => leaksT a ++ leaksT b
end
noncomputable def frz1 (δ : Sto) (i : Nat) : Sto := match δ[i]? with
 | some (some (true, .lst xs)) => δ.set i (some (false, .lst xs))
 | _ => δ
noncomputable def frz : List Nat → Sto → Sto
 | [], δ => δ
 | i :: is, δ => frz is (frz1 δ i)
noncomputable def frsh : Ex → Bool
 | .lst _ => true
 | .comp .. => true
 | .mapx .. => true
 | .op1 .list _ => true
 | .op2 .add _ _ => true
 | .op2 .rep _ _ => true
 | .slc .. => true
 | _ => false
noncomputable def isOwn : D → Bool
 | .lst _ => true
 | _ => false
inductive Sm where
 | new (i : Nat)
 | asg (i : Nat) (e : Ex)
 | put (i : Nat) (ix e : Ex)
 | dput (i : Nat) (ix e : Ex)
 | app (i : Nat) (e : Ex)
 | ret (e : Ex)
 | ite (c : Tx) (a b : List Sm)
 | loop (k : IterK) (its : List Ex) (tg : List Nat) (body : List Sm)
 | whl (c : Tx) (body : List Sm)
 | rai (c : Nat)
 | tryx (body : List Sm) (cs : List Nat) (as : Option Nat) (h : List Sm)
 | pass
 | join (f : Nat)
 | ext (i : Nat) (e : Ex)
 | nest (i : Nat) (srcs : List Nat) (ps : List (Nat × Ex × Ex))
inductive Out where
 | nx (δ : Sto) | bk (δ : Sto) | ct (δ : Sto) | rt (d : D) | xc (c : Nat) (δ : Sto) | bad
noncomputable def Out.of {α : Type} (r : R α) (δ : Sto) (f : α → Out) : Out := match r with
 | .ok a => f a | .exc c => .xc c δ | .bad => .bad
@[simp] theorem Out.of_ok {α : Type} (a : α) (δ : Sto) (f : α → Out) : Out.of (.ok a) δ f = f a := rfl
@[simp] theorem Out.of_exc {α : Type} (c : Nat) (δ : Sto) (f : α → Out) : Out.of (.exc c : R α) δ f = .xc c δ := rfl
@[simp] theorem Out.of_bad {α : Type} (δ : Sto) (f : α → Out) : Out.of (.bad : R α) δ f = .bad := rfl
noncomputable def sets (δ : Sto) : List Nat → List D → Sto
 | i :: is, d :: ds => sets (δ.set i (some (false, d))) is ds
 | _, _ => δ
noncomputable def forM (f : D → Sto → Out) : List D → Sto → Out
 | [], δ => .nx δ
 | x :: r, δ => match f x δ with
  | .nx δ' => forM f r δ'
  | .ct δ' => forM f r δ'
  | .bk δ' => .nx δ'
  | .rt d => .rt d
  | _ => .bad
noncomputable def whlM (c : Sto → R Bool) (fz : Sto → Sto) (b : Sto → Out) : Nat → Sto → Out
 | 0, _ => .bad
 | n + 1, δ => match c (fz δ) with
  | .ok true => (match b (fz δ) with
   | .nx δ' => whlM c fz b n δ'
   | .ct δ' => whlM c fz b n δ'
   | .bk δ' => .nx δ'
   | .rt d => .rt d
   | _ => .bad)
  | .ok false => .nx (fz δ)
  | _ => .bad
noncomputable def putD (δ : Sto) (i : Nat) (k v : D) : Out := match δ[i]?, k with
 | some (some (true, .lst xs)), .int j => match ixD xs.length j with
  | some n => .nx (δ.set i (some (true, .lst (xs.set n v))))
  | none => .bad
 | _, _ => .bad
noncomputable def repD : List Int → List D → Int → D → List D
 | k :: ks, v :: vs, j, x => (if k = j then x else v) :: repD ks vs j x
 | _, _, _, _ => []
noncomputable def dputD (δ : Sto) (i : Nat) (k v : D) : Out := match δ[i]?, k with
 | some (some (true, .dic ks vs)), .int j => if ks.length < LIM then (if j ∈ ks then .nx (δ.set i (some (true, .dic ks (repD ks vs j v)))) else .nx (δ.set i (some (true, .dic (ks ++ [j]) (vs ++ [v]))))) else .bad
 | _, _ => .bad
noncomputable def ownL (δ : Sto) (i : Nat) : Bool := match δ[i]? with
 | some (some (true, .lst _)) => true
 | _ => false
noncomputable def ownM (δ : Sto) (i : Nat) : Bool := match δ[i]? with
 | some (some (true, .dic _ _)) => true
 | _ => false
noncomputable def appD (δ : Sto) (i : Nat) (v : D) : Out := match δ[i]? with
 | some (some (true, .lst xs)) => if xs.length < LIM then .nx (δ.set i (some (true, .lst (xs ++ [v])))) else .bad
 | _ => .bad
noncomputable def extD (δ : Sto) (i : Nat) (v : D) : Out := match δ[i]?, v with
 | some (some (true, .lst xs)), .lst ys => if xs.length + ys.length < LIM then .nx (δ.set i (some (true, .lst (xs ++ ys)))) else .bad
 | _, _ => .bad
noncomputable def lstI (r : List Int) : D := .lst (r.map .int)
noncomputable def ren (old new : Int) (r : List Int) : List Int := r.map fun x => if x = old then new else x
noncomputable def renAll (old new : Int) (nL k : Nat) (RR : List (List Int)) : List (List Int) := (RR.take nL).map (ren old new) ++ ((RR.drop nL).take (k + 1) ++ ((RR.drop nL).drop (k + 1)).map (ren old new))
noncomputable def turnJ (nL k : Nat) (s : List (List Int) × Int) : List (List Int) × Int := match s.1[nL + k]? with
 | some (a :: b :: _) => (renAll b a nL k s.1, if a = b then s.2 + 1 else s.2)
 | _ => s
noncomputable def turnsJ (nL : Nat) (s : List (List Int) × Int) : Nat → List (List Int) × Int
 | 0 => s
 | k + 1 => turnJ nL k (turnsJ nL s k)
noncomputable def intsI : List D → Option (List Int)
 | [] => some []
 | .int i :: r => (intsI r).map (i :: ·)
 | _ => none
noncomputable def rowsI : List D → Option (List (List Int))
 | [] => some []
 | .tup xs :: r => (intsI xs).bind fun q => (rowsI r).map (q :: ·)
 | _ => none
noncomputable def asRows : R D → Option (List (List Int))
 | .ok (.lst xs) => rowsI xs
 | _ => none
noncomputable def asInt : R D → Option Int
 | .ok (.int i) => some i
 | _ => none
noncomputable def joinOk (n : Nat) (R P : List (List Int)) : Bool := decide (n = 8) && decide (R.length + P.length ≤ 1000) && R.all (fun r => decide (r.length ≤ 1000)) && P.all (fun r => decide (r.length = 2))
noncomputable def joinD (Φ : Nat → List D → R D) (f : Nat) (δ : Sto) : Out := match asRows (rdV δ 0), asInt (rdV δ 1), asRows (rdV δ 2) with
 | some R, some g, some P => if joinOk δ.length R P = true then
   Out.of (Φ f [.lst (((turnsJ R.length (R ++ P, g) P.length).1.take R.length).map lstI)]).quiet δ fun d => .rt (.tup [d, .int (turnsJ R.length (R ++ P, g) P.length).2])
  else .bad
 | _, _, _ => .bad
noncomputable def rowsOf (δ : Sto) : List Nat → Option (List (List Int))
 | [] => some []
 | j :: js => match rdV δ j with
  | .ok (.tup xs) => (intsOf xs).bind fun r => (rowsOf δ js).map (r :: ·)
  | _ => none
noncomputable def nestD (e : Ex → R D) : List (Nat × Ex × Ex) → List (List Int) → Option (List (List Int))
 | [], R => some R
 | (k, ix, v) :: ps, R => match e v, e ix, R[k]? with
  | .ok (.int w), .ok (.int j), some r => (ixD r.length j).bind fun m => nestD e ps (R.set k (r.set m w))
  | _, _, _ => none
noncomputable def noOwn (δ : Sto) : Bool := δ.all fun s => match s with
 | some (true, _) => false
 | _ => true
noncomputable def unset (δ : Sto) (i : Nat) : Bool := match δ[i]? with
 | some none => true
 | _ => false
noncomputable def nestX (e : Ex → R D) (i : Nat) (srcs : List Nat) (ps : List (Nat × Ex × Ex)) (δ : Sto) : Out :=
 if (noOwn δ && unset δ i) = true then match rowsOf δ srcs with
  | some R => if (decide (R.length ≤ 1000) && R.all fun r => decide (r.length ≤ 1000)) = true then match nestD e ps R with
   | some R' => .nx (δ.set i (some (true, .lst (R'.map lstI))))
   | none => .bad
   else .bad
  | none => .bad
 else .bad
section
variable (Φ : Nat → List D → R D) (G : List D) (n : Nat)
mutual
noncomputable def xec : Sm → Sto → Out
 | .new i, δ => .nx (δ.set i (some (true, .dic [] [])))
 | .asg i e, δ => Out.of (ev Φ G false e (frz (leaks false e) δ)) (frz (leaks false e) δ) fun d => .nx ((frz (leaks false e) δ).set i (some (frsh e && isOwn d, d)))
 | .put i ix e, δ => if ownL (frz (leaks false e ++ leaks true ix) δ) i then Out.of (ev Φ G false e (frz (leaks false e ++ leaks true ix) δ)) (frz (leaks false e ++ leaks true ix) δ) fun v =>
   Out.of (ev Φ G true ix (frz (leaks false e ++ leaks true ix) δ)) (frz (leaks false e ++ leaks true ix) δ) fun k => putD (frz (leaks false e ++ leaks true ix) δ) i k v else .bad
 | .dput i ix e, δ => if ownM (frz (leaks false e ++ leaks true ix) δ) i then Out.of (ev Φ G false e (frz (leaks false e ++ leaks true ix) δ)) (frz (leaks false e ++ leaks true ix) δ) fun v =>
   Out.of (ev Φ G true ix (frz (leaks false e ++ leaks true ix) δ)) (frz (leaks false e ++ leaks true ix) δ) fun k => dputD (frz (leaks false e ++ leaks true ix) δ) i k v else .bad
 | .app i e, δ => if ownL (frz (leaks false e) δ) i then Out.of (ev Φ G false e (frz (leaks false e) δ)) (frz (leaks false e) δ) fun v => appD (frz (leaks false e) δ) i v else .bad
 | .ret e, δ => Out.of (ev Φ G false e (frz (leaks false e) δ)) (frz (leaks false e) δ) fun d => .rt d
 | .ite c a b, δ => Out.of (evT Φ G c (frz (leaksT c) δ)) (frz (leaksT c) δ) fun t => if t then xecs a (frz (leaksT c) δ) else xecs b (frz (leaksT c) δ)
 | .loop k its tg body, δ => Out.of ((evs Φ G false its (frz (leakss false its) δ)).bind (itemsD k)).quiet (frz (leakss false its) δ) fun xs =>
   forM (fun x δ' => match spread tg.length x with
    | none => .bad
    | some ts => xecs body (sets δ' tg ts)) xs (frz (leakss false its) δ)
 | .whl c body, δ => whlM (evT Φ G c) (frz (leaksT c)) (xecs body) n δ
 | .rai c, δ => .xc c δ
 | .tryx body cs as h, δ => match xecs body δ with
   | .xc c' δ' => if cs.contains c' then (match as with
     | none => (match xecs h δ' with
      | .xc _ _ => .bad
      | o => o)
     | some i => match xecs h (δ'.set i (some (false, .exn c'))) with
      | .nx δ'' => .nx (δ''.set i none)
      | .rt d => .rt d
      | _ => .bad) else .bad
   | o => o
 | .pass, δ => .nx δ
 | .join f, δ => joinD Φ f δ
 | .nest i srcs ps, δ => nestX (fun e => ev Φ G true e δ) i srcs ps δ
 | .ext i e, δ => if ownL (frz (leaks true e) δ) i then Out.of (ev Φ G true e (frz (leaks true e) δ)) (frz (leaks true e) δ) fun v => extD (frz (leaks true e) δ) i v else .bad
noncomputable def xecs : List Sm → Sto → Out
 | [], δ => .nx δ
 | s :: ss, δ => match xec s δ with
  | .nx δ' => xecs ss δ'
  | o => o
end
end
structure Fn where
 np : Nat
 ns : Nat
 body : List Sm
noncomputable def startD (F : Fn) (ds : List D) : Sto := ds.map (fun d => some (false, d)) ++ List.replicate (F.ns - F.np) none
noncomputable def Out.val : Out → R D
 | .nx _ => .ok .non
 | .rt d => .ok d
 | .xc c _ => .exc c
 | _ => .bad
structure Prog where
 fns : List Fn
 gls : List D
noncomputable def Phi (P : Prog) : Nat → Nat → List D → R D
 | 0, _, _ => .bad
 | k + 1, f, ds => match P.fns[f]? with
  | some F => if ds.length = F.np then (xecs (Phi P k) P.gls 1000 F.body (startD F ds)).val else .bad
  | none => .bad
end Py
namespace L2.Snd
open PySem PySem.Spec PyProof.Rows L2 Py
def ExcOf (a C : Addr) : HO := .ext fun h => ∃ o, h.get? a = some o ∧ o.cls = .ref C ∧ o.dict = none ∧ ∃ vs, o.data = .fields vs
def SqF (K : PySem.W.Frag) (H : Hp) (a : Addr) (xs : List V) : Prop :=
 (∃ o, H a = some (.frz o (.lst xs))) ∨
  ∃ (o : Obj) (its : Array Value) (n : Nat), K.lookup a = some o ∧ o.cls = .type "list" ∧ o.dict = none ∧ o.data = .seq its n ∧ its.size ≤ sizeLine ∧ Vals xs its.toList
theorem SqF.sqL {K : PySem.W.Frag} {H : Hp} {a : Addr} {xs : List V} (h : SqF K H a xs) : SqL K H a xs := h.elim (fun ⟨o, e⟩ => .inl (.inr ⟨o, e⟩)) .inr
section
variable (K : PySem.W.Frag) (cl : Nat → Addr) (F : Addr → Prop) (H : Hp)
mutual
def Rep : D → V → Prop
 | .non, v => v = .non
 | .bl b, v => v = .bl b
 | .int i, v => v = .int i
 | .str x, v => v = .str ⟨x.toArray⟩
 | .tup xs, v => ∃ a vs, v = .ref a ∧ SqT K H a vs ∧ Reps xs vs
 | .lst xs, v => ∃ a vs, v = .ref a ∧ F a ∧ H a = some (.lst vs) ∧ Reps xs vs
 | .dic _ _, _ => False
 | .exn c, v => ∃ a, v = .ref a ∧ F a ∧ H a = some (ExcOf a (cl c))
 | .scr ns, v => ∃ a, v = .ref a ∧ SqF K H a (ns.map V.int)
def Reps : List D → List V → Prop
 | [], vs => vs = []
 | d :: ds, vs => ∃ v r, vs = v :: r ∧ Rep d v ∧ Reps ds r
end
def Own (d : D) (a : Addr) : Prop := match d with
 | .lst xs => ∃ vs, H a = some (.lst vs) ∧ Reps K cl F H xs vs
 | .dic ks ds => ∃ kvs : List (Key × V), H a = some (.dK kvs) ∧ kvs.map (·.1) = ks.map Sum.inl ∧ Reps K cl F H ds (kvs.map (·.2))
 | _ => False
def Got (d : D) (v : V) : Prop := Rep K cl F H d v ∨ ∃ p, v = .ref p ∧ Own K cl F H d p
end
structure Pres (F : Addr → Prop) (H H' : Hp) : Prop where
 fr : ∀ a o, F a → H a = some o → H' a = some o
 tp : ∀ a xs, H a = some (.tup xs) → H' a = some (.tup xs)
 fz : ∀ a o u, H a = some (.frz o u) → H' a = some (.frz o u)
theorem Pres.of_same {F : Addr → Prop} {H H' : Hp} (h : Same H H') : Pres F H H' := ⟨fun a o _ e => h a o e, fun a xs e => h a _ e, fun a o u e => h a _ e⟩
theorem Pres.upd {F : Addr → Prop} {H : Hp} {p : Addr} {o : HO} (hp : ¬ F p) (ht : ∀ xs, H p ≠ some (.tup xs)) (hf : ∀ o u, H p ≠ some (.frz o u)) : Pres F H (upd H p o) := by
 refine ⟨fun a o' fa e => ?_, fun a xs e => ?_, fun a o' u e => ?_⟩
 ·rw [aL (by rintro rfl; exact hp fa)]; exact e
 ·rw [aL (by rintro rfl; exact ht xs e)]; exact e
 ·rw [aL (by rintro rfl; exact hf o' u e)]; exact e
theorem Pres.sqT {K : PySem.W.Frag} {F : Addr → Prop} {H H' : Hp} {a : Addr} {xs : List V} (P : Pres F H H') (h : SqT K H a xs) : SqT K H' a xs := by
 rcases h with (h | ⟨o, h⟩) | h
 ·exact .inl (.inl (P.tp _ _ h))
 ·exact .inl (.inr ⟨o, P.fz _ _ _ h⟩)
 ·exact .inr h
theorem Pres.sqF {K : PySem.W.Frag} {F : Addr → Prop} {H H' : Hp} {a : Addr} {xs : List V} (P : Pres F H H') (h : SqF K H a xs) : SqF K H' a xs := by
 rcases h with ⟨o, h⟩ | h
 ·exact .inl ⟨o, P.fz _ _ _ h⟩
 ·exact .inr h
section
variable {K : PySem.W.Frag} {cl : Nat → Addr} {F F' : Addr → Prop} {H H' : Hp}
mutual
theorem Rep.mono (P : Pres F H H') (s : ∀ a, F a → F' a) : ∀ {d : D} {v : V}, Rep K cl F H d v → Rep K cl F' H' d v
 | .non, _, h => by simpa [Rep] using h
 | .bl _, _, h => by simpa [Rep] using h
 | .int _, _, h => by simpa [Rep] using h
 | .str _, _, h => by simpa [Rep] using h
 | .tup xs, _, h => by
  simp only [Rep] at h ⊢
  obtain ⟨a, vs, e, q, r⟩ := h
  exact ⟨a, vs, e, P.sqT q, Reps.mono P s r⟩
 | .lst xs, _, h => by
  simp only [Rep] at h ⊢
  obtain ⟨a, vs, e, fa, q, r⟩ := h
  exact ⟨a, vs, e, s a fa, P.fr _ _ fa q, Reps.mono P s r⟩
 | .dic _ _, _, h => by simp only [Rep] at h
 | .exn c, _, h => by
  simp only [Rep] at h ⊢
  obtain ⟨a, e, fa, q⟩ := h
  exact ⟨a, e, s a fa, P.fr _ _ fa q⟩
 | .scr ns, _, h => by
  simp only [Rep] at h ⊢
  obtain ⟨a, e, q⟩ := h
  exact ⟨a, e, P.sqF q⟩
theorem Reps.mono (P : Pres F H H') (s : ∀ a, F a → F' a) : ∀ {ds : List D} {vs : List V}, Reps K cl F H ds vs → Reps K cl F' H' ds vs
 | [], _, h => by simpa [Reps] using h
 | d :: ds, _, h => by
  simp only [Reps] at h ⊢
  obtain ⟨v, r, e, h1, h2⟩ := h
  exact ⟨v, r, e, Rep.mono P s h1, Reps.mono P s h2⟩
end
theorem Own.mono (h : Own K cl F H d a) (P : Pres F H H') (s : ∀ a, F a → F' a) (ha : H' a = H a) : Own K cl F' H' d a := by
 cases d with
 | lst xs => obtain ⟨vs, e, r⟩ := h; exact ⟨vs, ha.trans e, r.mono P s⟩
 | dic ks ds => obtain ⟨kvs, e, k, r⟩ := h; exact ⟨kvs, ha.trans e, k, r.mono P s⟩
 | _ => exact h.elim
theorem Own.at (h : Own K cl F H d a) : (∃ vs, H a = some (.lst vs)) ∨ ∃ kvs, H a = some (.dK kvs) := by
 cases d with
 | lst xs => obtain ⟨vs, e, r⟩ := h; exact .inl ⟨vs, e⟩
 | dic ks ds => obtain ⟨kvs, e, k, r⟩ := h; exact .inr ⟨kvs, e⟩
 | _ => exact h.elim
theorem Own.some (h : Own K cl F H d a) : H a ≠ none := by
 rcases h.at with ⟨_, e⟩ | ⟨_, e⟩ <;> rw [e] <;> exact fun z => nomatch z
theorem Reps.nil : Reps K cl F H [] [] := by simp [Reps]
theorem Reps.cons {d : D} {ds : List D} {v : V} {vs : List V} (h : Rep K cl F H d v) (r : Reps K cl F H ds vs) : Reps K cl F H (d :: ds) (v :: vs) := by
 simp only [Reps]; exact ⟨v, vs, rfl, h, r⟩
theorem Reps.cons_inv {d : D} {ds : List D} {vs : List V} (h : Reps K cl F H (d :: ds) vs) : ∃ v r, vs = v :: r ∧ Rep K cl F H d v ∧ Reps K cl F H ds r := by simpa only [Reps] using h
theorem Reps.nil_inv {vs : List V} (h : Reps K cl F H [] vs) : vs = [] := by simpa only [Reps] using h
theorem Reps.length : ∀ {ds : List D} {vs : List V}, Reps K cl F H ds vs → vs.length = ds.length
 | [], vs, h => by rw [h.nil_inv]; rfl
 | d :: ds, vs, h => by
  obtain ⟨v, r, rfl, _, h2⟩ := h.cons_inv
  rw [List.length_cons, List.length_cons, Reps.length h2]
theorem Reps.append : ∀ {ds es : List D} {vs us : List V}, Reps K cl F H ds vs → Reps K cl F H es us → Reps K cl F H (ds ++ es) (vs ++ us)
 | [], _, vs, _, h, h' => by rw [h.nil_inv]; exact h'
 | d :: ds, _, vs, _, h, h' => by
  obtain ⟨v, r, rfl, h1, h2⟩ := h.cons_inv
  exact (Reps.append h2 h').cons h1 |> fun z => z
theorem Reps.get : ∀ {ds : List D} {vs : List V} {i : Nat} {d : D}, Reps K cl F H ds vs → ds[i]? = some d → ∃ v, vs[i]? = some v ∧ Rep K cl F H d v
 | [], _, _, _, _, e => by simp at e
 | d :: ds, vs, 0, d', h, e => by
  obtain ⟨v, r, rfl, h1, h2⟩ := h.cons_inv
  simp at e; subst e
  exact ⟨v, by simp, h1⟩
 | d :: ds, vs, i + 1, d', h, e => by
  obtain ⟨v, r, rfl, h1, h2⟩ := h.cons_inv
  obtain ⟨u, h3, h4⟩ := Reps.get (i := i) h2 (by simpa using e)
  exact ⟨u, by simpa using h3, h4⟩
theorem Reps.take : ∀ (n : Nat) {ds : List D} {vs : List V}, Reps K cl F H ds vs → Reps K cl F H (ds.take n) (vs.take n)
 | 0, _, _, _ => by simpa using Reps.nil
 | _ + 1, [], vs, h => by rw [h.nil_inv]; simpa using Reps.nil
 | n + 1, d :: ds, vs, h => by
  obtain ⟨v, r, rfl, h1, h2⟩ := h.cons_inv
  simpa using Reps.cons h1 (Reps.take n h2)
theorem Reps.drop : ∀ (n : Nat) {ds : List D} {vs : List V}, Reps K cl F H ds vs → Reps K cl F H (ds.drop n) (vs.drop n)
 | 0, _, _, h => by simpa using h
 | _ + 1, [], vs, h => by rw [h.nil_inv]; simpa using Reps.nil
 | n + 1, d :: ds, vs, h => by
  obtain ⟨v, r, rfl, h1, h2⟩ := h.cons_inv
  simpa using Reps.drop n h2
theorem Reps.set : ∀ (n : Nat) {ds : List D} {vs : List V} {d : D} {v : V}, Reps K cl F H ds vs → Rep K cl F H d v → Reps K cl F H (ds.set n d) (vs.set n v)
 | _, [], vs, _, _, h, _ => by rw [h.nil_inv]; simpa using Reps.nil
 | 0, d :: ds, vs, _, _, h, h' => by
  obtain ⟨v, r, rfl, h1, h2⟩ := h.cons_inv
  simpa using Reps.cons h' h2
 | n + 1, d :: ds, vs, _, _, h, h' => by
  obtain ⟨v, r, rfl, h1, h2⟩ := h.cons_inv
  simpa using Reps.cons h1 (Reps.set n h2 h')
end
structure Up (F : Addr → Prop) (H : Hp) (F' : Addr → Prop) (H' : Hp) : Prop where
 same : Same H H'
 sub : ∀ a, F a → F' a
 new : ∀ a, F' a → F a ∨ (H a = none ∧ H' a ≠ none)
theorem Up.refl (F : Addr → Prop) (H : Hp) : Up F H F H := ⟨Same.refl H, fun _ h => h, fun _ h => .inl h⟩
theorem Up.trans {F F1 F2 : Addr → Prop} {H H1 H2 : Hp} (a : Up F H F1 H1) (b : Up F1 H1 F2 H2) : Up F H F2 H2 :=
 ⟨a.same.trans b.same, fun x h => b.sub x (a.sub x h), fun x h => by
  rcases b.new x h with z | ⟨z1, z2⟩
  ·rcases a.new x z with y | ⟨y1, y2⟩
   ·exact .inl y
   ·refine .inr ⟨y1, fun e => ?_⟩
    exact y2 (b.same.free e)
  ·exact .inr ⟨a.same.free z1, z2⟩⟩
theorem Up.alloc {F : Addr → Prop} {H : Hp} {p : Addr} {o : HO} (hp : H p = none) : Up F H F (L2.upd H p o) :=
 ⟨fun b u e => by rw [aL (aT e hp)]; exact e, fun _ h => h, fun _ h => .inl h⟩
def addF (F : Addr → Prop) (p : Addr) : Addr → Prop := fun a => F a ∨ a = p
theorem Up.freeze {F F' : Addr → Prop} {H H' : Hp} {p : Addr} (u : Up F H F' H') (hp : H p = none) (hp' : H' p ≠ none) : Up F H (addF F' p) H' :=
 ⟨u.same, fun a h => .inl (u.sub a h), fun a h => h.elim (u.new a) fun e => .inr (by subst e; exact ⟨hp, hp'⟩)⟩
def Trk (F : Addr → Prop) (H : Hp) : Prop := ∀ a, F a → H a ≠ none
theorem Trk.up {F F' : Addr → Prop} {H H' : Hp} (t : Trk F H) (u : Up F H F' H') : Trk F' H' := fun a h => by
 rcases u.new a h with z | ⟨_, z⟩
 ·exact fun e => t a z (u.same.free e)
 ·exact z
theorem Trk.fresh {F : Addr → Prop} {H : Hp} (t : Trk F H) {p : Addr} (h : H p = none) : ¬ F p := fun z => t p z h
section
variable {K : PySem.W.Frag} {cl : Nat → Addr} {F F' : Addr → Prop} {H H' : Hp} {d : D} {v : V}
theorem Rep.up (h : Rep K cl F H d v) (u : Up F H F' H') : Rep K cl F' H' d v := h.mono (Pres.of_same u.same) u.sub
theorem Reps.up {ds : List D} {vs : List V} (h : Reps K cl F H ds vs) (u : Up F H F' H') : Reps K cl F' H' ds vs := h.mono (Pres.of_same u.same) u.sub
theorem Own.up {a : Addr} (h : Own K cl F H d a) (u : Up F H F' H') : Own K cl F' H' d a := by
 refine h.mono (Pres.of_same u.same) u.sub ?_
 rcases h.at with ⟨_, e⟩ | ⟨_, e⟩ <;> rw [e] <;> exact u.same _ _ e
theorem Got.up (h : Got K cl F H d v) (u : Up F H F' H') : Got K cl F' H' d v := h.elim (fun z => .inl (z.up u)) fun ⟨p, e, o⟩ => .inr ⟨p, e, o.up u⟩
end
structure Sees (K : PySem.W.Frag) (cl : Nat → Addr) (F : Addr → Prop) (H : Hp) (σ : St) (δ : Sto) : Prop where
 len : σ.length = δ.length
 trk : Trk F H
 sh : ∀ (i : Nat) d, δ[i]? = some (some (false, d)) → ∃ v, σ[i]? = some (some v) ∧ Rep K cl F H d v
 ow : ∀ (i : Nat) d, δ[i]? = some (some (true, d)) → ∃ a, σ[i]? = some (some (.ref a)) ∧ ¬ F a ∧ Own K cl F H d a
theorem Sees.up {K : PySem.W.Frag} {cl : Nat → Addr} {F F' : Addr → Prop} {H H' : Hp} {σ : St} {δ : Sto} (h : Sees K cl F H σ δ) (u : Up F H F' H') : Sees K cl F' H' σ δ := by
 refine ⟨h.len, h.trk.up u, fun i d e => ?_, fun i d e => ?_⟩
 ·obtain ⟨v, h1, h2⟩ := h.sh i d e
  exact ⟨v, h1, h2.up u⟩
 ·obtain ⟨a, h1, h2, h3⟩ := h.ow i d e
  exact ⟨a, h1, fun z => (u.new a z).elim h2 fun y => h3.some y.1, h3.up u⟩
def New (K : PySem.W.Frag) (cl : Nat → Addr) (F' : Addr → Prop) (H H' : Hp) (d : D) (v : V) : Prop := ∃ p, v = .ref p ∧ H p = none ∧ ¬ F' p ∧ Own K cl F' H' d p
def Res (K : PySem.W.Frag) (cl : Nat → Addr) (fr : Bool) (F' : Addr → Prop) (H H' : Hp) (d : D) (v : V) : Prop :=
 if (fr && isOwn d) = true then New K cl F' H H' d v else Rep K cl F' H' d v
def Gives (K : PySem.W.Frag) (cl : Nat → Addr) (m fr : Bool) (F' : Addr → Prop) (H H' : Hp) (d : D) (v : V) : Prop :=
 if m = true then Got K cl F' H' d v else Res K cl fr F' H H' d v
section
variable {K : PySem.W.Frag} {cl : Nat → Addr} {F F' : Addr → Prop} {H H' : Hp} {d : D} {v : V} {fr : Bool}
theorem New.got (h : New K cl F' H H' d v) : Got K cl F' H' d v := let ⟨p, e, _, _, o⟩ := h; .inr ⟨p, e, o⟩
theorem Res.got (h : Res K cl fr F' H H' d v) : Got K cl F' H' d v := by
 unfold Res at h
 split at h
 ·exact h.got
 ·exact .inl h
theorem Res.gives {m : Bool} (h : Res K cl fr F' H H' d v) : Gives K cl m fr F' H H' d v := by
 unfold Gives
 split
 ·exact h.got
 ·exact h
theorem Res.of_rep (h : Rep K cl F' H' d v) (hn : (fr && isOwn d) = false) : Res K cl fr F' H H' d v := by
 unfold Res
 rw [if_neg (by rw [hn]; exact Bool.false_ne_true)]
 exact h
theorem Gives.got {m : Bool} (h : Gives K cl m fr F' H H' d v) : Got K cl F' H' d v := by
 unfold Gives at h
 split at h
 ·exact h
 ·exact h.got
theorem Res.keep (h : Res K cl fr F' H H' d v) (u : Up F H F' H') : ∃ F2, Up F H F2 H' ∧ (∀ a, F' a → F2 a) ∧ Rep K cl F2 H' d v := by
 unfold Res at h
 split at h
 ·obtain ⟨p, rfl, hp, nf, o⟩ := h
  refine ⟨addF F' p, u.freeze hp o.some, fun a z => .inl z, ?_⟩
  cases d with
  | lst xs =>
   obtain ⟨vs, e, r⟩ := o
   simp only [Rep]
   exact ⟨p, vs, rfl, .inr rfl, e, r.mono (Pres.of_same (Same.refl _)) fun a z => .inl z⟩
  | dic ks ds => rename_i hc; simp [isOwn] at hc
  | _ => exact o.elim
 ·exact ⟨F', u, fun _ z => z, h⟩
end
end L2.Snd
namespace L2.Snd
open PySem PySem.Spec PyProof.Rows L2 Py
def Meet {α : Type} (r : R α) (P : α → Prop) (E : Nat → Prop) : Prop := match r with
 | .ok a => P a | .exc c => E c | .bad => False
theorem Meet.bind {α β : Type} {r : R α} {f : α → R β} {P : β → Prop} {E : Nat → Prop} (h : Meet (r.bind f) P E) : Meet r (fun a => Meet (f a) P E) E := by
 cases r <;> exact h
theorem Meet.mono {α : Type} {r : R α} {P P' : α → Prop} {E E' : Nat → Prop} (h : Meet r P E) (hP : ∀ a, r = .ok a → P a → P' a) (hE : ∀ c, E c → E' c) : Meet r P' E' := by
 cases r with
 | ok a => exact hP a rfl h
 | exc c => exact hE c h
 | bad => exact h
def Post (K : PySem.W.Frag) (cl : Nat → Addr) (XE : Nat → Hp → Prop) (m fr : Bool) (F : Addr → Prop) (H : Hp) (Q : VK) (r : R D) : Prop :=
 Meet r (fun d => ∀ F' v H', Up F H F' H' → Gives K cl m fr F' H H' d v → Q v H') fun c => ∀ F' H', Up F H F' H' → XE c H'
def PostT (XE : Nat → Hp → Prop) (F : Addr → Prop) (H : Hp) (Q : Bool → Hp → Prop) (r : R Bool) : Prop :=
 Meet r (fun b => ∀ F' H', Up F H F' H' → Q b H') fun c => ∀ F' H', Up F H F' H' → XE c H'
def PostA (K : PySem.W.Frag) (cl : Nat → Addr) (XE : Nat → Hp → Prop) (m : Bool) (F : Addr → Prop) (H : Hp) (Q : List V → Hp → Prop) (r : R (List D)) : Prop :=
 Meet r (fun ds => ∀ F' vs H', Up F H F' H' → (if m = true then Paired (Got K cl F' H') ds vs else Reps K cl F' H' ds vs) → Q vs H') fun c => ∀ F' H', Up F H F' H' → XE c H'
section
variable {K : PySem.W.Frag} {cl : Nat → Addr} {XE : Nat → Hp → Prop} {m fr : Bool} {F F' : Addr → Prop} {H H' H0 : Hp} {Q : VK} {r : R D} {d : D} {v : V}
theorem New.base (h : New K cl F' H0 H' d v) (s : Same H H0) : New K cl F' H H' d v := let ⟨p, e, hp, n, o⟩ := h; ⟨p, e, s.free hp, n, o⟩
theorem Res.base (h : Res K cl fr F' H0 H' d v) (s : Same H H0) : Res K cl fr F' H H' d v := by
 unfold Res at h ⊢
 split
 ·rename_i c; rw [if_pos c] at h; exact h.base s
 ·rename_i c; rw [if_neg c] at h; exact h
theorem Gives.base (h : Gives K cl m fr F' H0 H' d v) (s : Same H H0) : Gives K cl m fr F' H H' d v := by
 unfold Gives at h ⊢
 split
 ·rename_i c; rw [if_pos c] at h; exact h
 ·rename_i c; rw [if_neg c] at h; exact h.base s
theorem Post.up (h : Post K cl XE m fr F H Q r) (u : Up F H F' H') : Post K cl XE m fr F' H' Q r :=
 Meet.mono h (fun d _ q F2 v H2 u2 g => q F2 v H2 (u.trans u2) (g.base u.same)) fun c q F2 H2 u2 => q F2 H2 (u.trans u2)
theorem PostT.up {Q : Bool → Hp → Prop} {r : R Bool} (h : PostT XE F H Q r) (u : Up F H F' H') : PostT XE F' H' Q r :=
 Meet.mono h (fun d _ q F2 H2 u2 => q F2 H2 (u.trans u2)) fun c q F2 H2 u2 => q F2 H2 (u.trans u2)
theorem PostA.up {Q : List V → Hp → Prop} {r : R (List D)} (h : PostA K cl XE m F H Q r) (u : Up F H F' H') : PostA K cl XE m F' H' Q r :=
 Meet.mono h (fun d _ q F2 vs H2 u2 g => q F2 vs H2 (u.trans u2) g) fun c q F2 H2 u2 => q F2 H2 (u.trans u2)
theorem Post.here (h : Post K cl XE m fr F H Q (.ok d)) (g : Res K cl fr F H H d v) : Q v H := h F v H (Up.refl F H) g.gives
theorem Post.hereR (h : Post K cl XE m fr F H Q (.ok d)) (g : Rep K cl F H d v) (hn : (fr && isOwn d) = false) : Q v H := h.here (.of_rep g hn)
end
section
variable (X : Cx) (cl : Nat → Addr) (XE : Nat → St → Hp → Prop) (Φ : Nat → List D → R D) (G : List D)
def OkE (m : Bool) (ex : Ex) (e : Expr) : Prop := ∃ t, PE X e t ∧ ∀ F σ δ H Q, Sees X.K cl F H σ δ → Post X.K cl (fun c => XE c σ) m (frsh ex) F H Q (ev Φ G m ex δ) → t σ H Q
def OkT (tx : Tx) (e : Expr) : Prop := ∃ t, PT X e t ∧ ∀ F σ δ H Q, Sees X.K cl F H σ δ → PostT (fun c => XE c σ) F H Q (evT Φ G tx δ) → t σ H Q
def OkW (tx : Tx) (e : Expr) : Prop := ∃ t, PW X e t ∧ ∀ F σ δ H Q, Sees X.K cl F H σ δ → PostT (fun c => XE c σ) F H Q (evT Φ G tx δ) → t σ H Q
def OkA (m : Bool) (exs : List Ex) (es : List Expr) : Prop := ∃ t, PA X es t ∧ ∀ F σ δ H Q, Sees X.K cl F H σ δ → PostA X.K cl (fun c => XE c σ) m F H Q (evs Φ G m exs δ) → t σ H Q
end
section
variable {X : Cx} {cl : Nat → Addr} {XE : Nat → St → Hp → Prop} {YE : Nat → Hp → Prop} {Φ : Nat → List D → R D} {G : List D} {m : Bool}
theorem ok_var {i : Nat} {x : Str} {pos : Pos} (hN : X.N[i]? = some x) (hv : Vis X.env.scope x) (hd : (x == ("__debug__" : Str)) = false) (hcd : (x == ("__classdict__" : Str)) = false) :
  OkE X cl XE Φ G m (.var i) (.Name x pos) := by
 refine ⟨_, fD hN hv hd hcd, fun F σ δ H Q S h => ?_⟩
 simp only [ev] at h
 cases e : δ[i]? with
 | none => cases m <;> simp [rdV, rdR, e] at h <;> exact False.elim h
 | some o =>
  cases o with
  | none => cases m <;> simp [rdV, rdR, e] at h <;> exact False.elim h
  | some p =>
   obtain ⟨b, d⟩ := p
   cases b with
   | false =>
    obtain ⟨v, h1, h2⟩ := S.sh i d e
    refine ⟨v, h1, ?_⟩
    cases m <;> simp [rdV, rdR, e] at h <;> exact h F v H (Up.refl F H) (Res.gives (.of_rep h2 (by simp [frsh])))
   | true =>
    obtain ⟨a, h1, h2, h3⟩ := S.ow i d e
    refine ⟨.ref a, h1, ?_⟩
    cases m with
    | false => simp [rdV, e] at h; exact False.elim h
    | true =>
     simp [rdR, e] at h
     exact h F _ H (Up.refl F H) (by unfold Gives; rw [if_pos rfl]; exact .inr ⟨a, rfl, h3⟩)
theorem aC {i : Int} {j : Nat} {pos : Pos} : OkE X cl XE Φ G m (.cst (.int i)) (.Constant (.int i) j pos) :=
 ⟨_, oD, fun F σ δ H Q S h => Post.hereR h (by simp [Rep]) (by simp [frsh])⟩
theorem g6 {i : Bool} {j : Nat} {pos : Pos} : OkE X cl XE Φ G m (.cst (.bl i)) (.Constant (.bool i) j pos) :=
 ⟨_, pe_bl, fun F σ δ H Q S h => Post.hereR h (by simp [Rep]) (by simp [frsh])⟩
theorem fJ {j : Nat} {pos : Pos} : OkE X cl XE Φ G m (.cst .non) (.Constant .none j pos) :=
 ⟨_, pe_non, fun F σ δ H Q S h => Post.hereR h (by simp [Rep]) (by simp [frsh])⟩
theorem two {ea eb : Ex} {a b : Expr} {ta tb : TE} {r : R2} {o : D → D → R D} {fr : Bool} (ia : ∀ F σ δ H Q, Sees X.K cl F H σ δ → Post X.K cl (fun c => XE c σ) true (frsh ea) F H Q (ev Φ G true ea δ) → ta σ H Q)
  (ib : ∀ F σ δ H Q, Sees X.K cl F H σ δ → Post X.K cl (fun c => XE c σ) true (frsh eb) F H Q (ev Φ G true eb δ) → tb σ H Q)
  (ho : ∀ (YE : Nat → Hp → Prop) F H x y p q Q, Trk F H → Got X.K cl F H p x → Got X.K cl F H q y → Post X.K cl YE m fr F H Q (o p q) → r x y H Q)
  {F : Addr → Prop} {σ : St} {δ : Sto} {H : Hp} {Q : VK} (S : Sees X.K cl F H σ δ) (h : Post X.K cl (fun c => XE c σ) m fr F H Q ((ev Φ G true ea δ).bind fun x => (ev Φ G true eb δ).bind fun y => o x y)) : tOp r ta tb σ H Q := by
 refine ia F σ δ H _ S (Meet.mono h.bind (fun p _ hp F1 x H1 u1 g1 => ?_) fun c z => z)
 have hp1 : Post X.K cl (fun c => XE c σ) m fr F1 H1 Q ((ev Φ G true eb δ).bind fun y => o p y) := Post.up hp u1
 refine ib F1 σ δ H1 _ (S.up u1) (Meet.mono hp1.bind (fun q _ hq F2 y H2 u2 g2 => ?_) fun c z => z)
 exact ho _ F2 H2 x y p q Q ((S.up u1).up u2).trk (g1.got.up u2) g2.got (Post.up hq u2)
theorem eC {op : Operator} {o : Op2} {ea eb : Ex} {a b : Expr} {pos : Pos} {r : R2} (hr : OpR X (binaryOp op) r) (ia : OkE X cl XE Φ G true ea a) (ib : OkE X cl XE Φ G true eb b)
  (ho : ∀ (YE : Nat → Hp → Prop) F H x y p q Q, Trk F H → Got X.K cl F H p x → Got X.K cl F H q y → Post X.K cl YE m (frsh (.op2 o ea eb)) F H Q (op2 o p q) → r x y H Q) : OkE X cl XE Φ G m (.op2 o ea eb) (.BinOp a op b pos) := by
 obtain ⟨ta, pa, ia⟩ := ia
 obtain ⟨tb, pb, ib⟩ := ib
 exact ⟨_, pe_op hr pa pb, fun F σ δ H Q S h => two (a := a) (b := b) (o := op2 o) ia ib ho S (by simpa only [ev] using h)⟩
theorem ok_ix {ea eb : Ex} {a b : Expr} {pos : Pos} {r : R2} (hr : IxR X r) (hs : PlainIx b) (ia : OkE X cl XE Φ G true ea a) (ib : OkE X cl XE Φ G true eb b)
  (ho : ∀ (YE : Nat → Hp → Prop) F H x y p q Q, Trk F H → Got X.K cl F H p x → Got X.K cl F H q y → Post X.K cl YE m (frsh (.op2 .at ea eb)) F H Q (op2 .at p q) → r x y H Q) : OkE X cl XE Φ G m (.op2 .at ea eb) (.Subscript a b pos) := by
 obtain ⟨ta, pa, ia⟩ := ia
 obtain ⟨tb, pb, ib⟩ := ib
 exact ⟨_, pe_ix hr pa pb hs, fun F σ δ H Q S h => two (a := a) (b := b) (o := op2 .at) ia ib ho S (by simpa only [ev] using h)⟩
theorem ok_un {op : UnaryOp} {o : Op1} {ea : Ex} {a : Expr} {pos : Pos} {r : V → Hp → VK → Prop} (hr : UnR X (unaryOp op) r) (ia : OkE X cl XE Φ G true ea a)
  (ho : ∀ (YE : Nat → Hp → Prop) F H x p Q, Trk F H → Got X.K cl F H p x → Post X.K cl YE m (frsh (.op1 o ea)) F H Q (op1 o p) → r x H Q) : OkE X cl XE Φ G m (.op1 o ea) (.UnaryOp op a pos) := by
 obtain ⟨ta, pa, ia⟩ := ia
 refine ⟨_, pe_un hr pa, fun F σ δ H Q S h => ?_⟩
 simp only [ev] at h
 exact ia F σ δ H _ S (Meet.mono (Meet.bind h) (fun p _ hp F1 x H1 u1 g1 => ho _ F1 H1 x p Q (S.up u1).trk g1.got (Post.up hp u1)) fun c z => z)
theorem aF : OkA X cl XE Φ G m [] [] := ⟨_, pa_nil, fun F σ δ H Q S h => by
 simp only [evs] at h
 refine h F [] H (Up.refl F H) ?_
 cases m
 ·rw [if_neg Bool.false_ne_true]; exact Reps.nil
 ·rw [if_pos rfl]; exact .nil⟩
theorem bP {ea : Ex} {es : List Ex} {a : Expr} {as : List Expr} (hs : starEach (a :: as) X.env = (false, eval a X.env) :: starEach as X.env) (ia : OkE X cl XE Φ G m ea a) (ir : OkA X cl XE Φ G m es as) :
  OkA X cl XE Φ G m (ea :: es) (a :: as) := by
 obtain ⟨ta, pa, ia⟩ := ia
 obtain ⟨tr, pr, ir⟩ := ir
 refine ⟨_, pa_cons pa pr hs, fun F σ δ H Q S h => ?_⟩
 simp only [evs] at h
 refine ia F σ δ H _ S (Meet.mono (Meet.bind h) (fun p _ hp F1 x H1 u1 g1 => ?_) fun c z => z)
 cases m with
 | true =>
  have hp1 : PostA X.K cl (fun c => XE c σ) true F1 H1 Q ((evs Φ G true es δ).bind fun xs => .ok (p :: xs)) := PostA.up hp u1
  refine ir F1 σ δ H1 _ (S.up u1) (Meet.mono (Meet.bind hp1) (fun ps _ hq F2 xs H2 u2 g2 => ?_) fun c z => z)
  rw [if_pos rfl] at g2
  exact hq F2 (x :: xs) H2 u2 (by rw [if_pos rfl]; exact .cons (g1.got.up u2) g2)
 | false =>
  unfold Gives at g1
  rw [if_neg Bool.false_ne_true] at g1
  obtain ⟨F1', u1', sub, rp⟩ := g1.keep u1
  have hp1 : PostA X.K cl (fun c => XE c σ) false F1' H1 Q ((evs Φ G false es δ).bind fun xs => .ok (p :: xs)) := PostA.up hp u1'
  refine ir F1' σ δ H1 _ (S.up u1') (Meet.mono (Meet.bind hp1) (fun ps _ hq F2 xs H2 u2 g2 => ?_) fun c z => z)
  rw [if_neg Bool.false_ne_true] at g2
  exact hq F2 (x :: xs) H2 u2 (by rw [if_neg Bool.false_ne_true]; exact .cons (rp.up u2) g2)
end
end L2.Snd
namespace L2.Snd
open PySem PySem.Spec PyProof.Rows L2 Py
theorem fK : ∀ {ds es : List D}, eqDs ds es = true → ds.length = es.length
 | [], [], _ => rfl
 | [], _ :: _, h => by simp [eqDs] at h
 | _ :: _, [], h => by simp [eqDs] at h
 | a :: as, b :: bs, h => by
  simp only [eqDs, Bool.and_eq_true] at h
  rw [List.length_cons, List.length_cons, fK h.2]
theorem fM : ∀ (ds es : List D), ds.length = es.length → eqDs ds es = (List.range ds.length).all fun j => eqD (ds.getD j .non) (es.getD j .non)
 | [], [], _ => by simp [eqDs]
 | [], _ :: _, h => by simp at h
 | _ :: _, [], h => by simp at h
 | a :: as, b :: bs, h => by
  have ih := fM as bs (by simpa using h)
  rw [eqDs, ih, List.length_cons, List.range_succ_eq_map, List.all_cons, List.all_map]
  rfl
section
variable {X : Cx} {pins : List (Addr × Obj)} {σ : St} {H : Hp} {s : Shared} {cl : Nat → Addr} {F : Addr → Prop}
theorem Got.tup {xs : List D} {v : V} (h : Got X.K cl F H (.tup xs) v) : ∃ a vs, v = .ref a ∧ SqT X.K H a vs ∧ Reps X.K cl F H xs vs := by
 rcases h with h | ⟨p, _, o⟩
 ·simpa only [Rep] using h
 ·exact o.elim
theorem Got.lst {xs : List D} {v : V} (h : Got X.K cl F H (.lst xs) v) : ∃ a vs, v = .ref a ∧ H a = some (.lst vs) ∧ Reps X.K cl F H xs vs := by
 rcases h with h | ⟨p, e, o⟩
 ·simp only [Rep] at h
  obtain ⟨a, vs, e, _, q, r⟩ := h
  exact ⟨a, vs, e, q, r⟩
 ·obtain ⟨vs, q, r⟩ := o
  exact ⟨p, vs, e, q, r⟩
theorem Got.int {i : Int} {v : V} (h : Got X.K cl F H (.int i) v) : v = .int i := by
 rcases h with h | ⟨p, _, o⟩
 ·simpa only [Rep] using h
 ·exact o.elim
theorem Got.bl {i : Bool} {v : V} (h : Got X.K cl F H (.bl i) v) : v = .bl i := by
 rcases h with h | ⟨p, _, o⟩
 ·simpa only [Rep] using h
 ·exact o.elim
theorem Got.non {v : V} (h : Got X.K cl F H .non v) : v = .non := by
 rcases h with h | ⟨p, _, o⟩
 ·simpa only [Rep] using h
 ·exact o.elim
theorem Got.str {x : List Nat} {v : V} (h : Got X.K cl F H (.str x) v) : v = .str ⟨x.toArray⟩ := by
 rcases h with h | ⟨p, _, o⟩
 ·simpa only [Rep] using h
 ·exact o.elim
theorem Got.scr {ns : List Int} {v : V} (h : Got X.K cl F H (.scr ns) v) : ∃ a, v = .ref a ∧ SqF X.K H a (ns.map V.int) := by
 rcases h with h | ⟨p, _, o⟩
 ·simpa only [Rep] using h
 ·exact o.elim
theorem Got.dic {ks : List Int} {ds : List D} {v : V} (h : Got X.K cl F H (.dic ks ds) v) : ∃ a kvs, v = .ref a ∧ H a = some (.dK kvs) ∧ kvs.map (·.1) = ks.map Sum.inl ∧ Reps X.K cl F H ds (kvs.map (·.2)) := by
 rcases h with h | ⟨p, e, o⟩
 ·simp only [Rep] at h
 ·obtain ⟨kvs, h1, h2, h3⟩ := o
  exact ⟨p, kvs, e, h1, h2, h3⟩
theorem eM (I : Inv X pins σ H s) {a : Addr} {xs ys : List V} (h1 : H a = some (.lst xs)) (h2 : SqT X.K H a ys) : False := by
 obtain ⟨its, _, ⟨o, ho, hc, n, hd⟩, _⟩ := I.tuple h2
 obtain ⟨_, its2, n2, _, e⟩ := I.hok a _ h1
 rw [ho] at e
 have := Option.some.inj e
 subst this
 exact absurd (show Value.type "list" = Value.type "tuple" from hc) (by decide)
theorem lZ (I : Inv X pins σ H s) : ∀ (n : Nat) (d e : D) (v : V), pln n d = true → pln n e = true → Got X.K cl F H d v → Got X.K cl F H e v → eqD d e = true := by
 intro n
 induction n using Nat.strongRecOn with
 | ind N ih0 =>
  have many : ∀ (n : Nat), n < N → ∀ (ds es : List D) (vs : List V), plns n ds = true → plns n es = true → Reps X.K cl F H ds vs → Reps X.K cl F H es vs → eqDs ds es = true := by
   intro n hn
   have ih := ih0 n hn
   intro ds
   induction ds with
   | nil =>
    intro es vs _ _ r1 r2
    rw [r1.nil_inv] at r2
    cases es with
    | nil => rfl
    | cons e es => obtain ⟨_, _, z, _⟩ := r2.cons_inv; cases z
   | cons d ds ih2 =>
    intro es vs p1 p2 r1 r2
    obtain ⟨v, r, rfl, a1, a2⟩ := r1.cons_inv
    cases es with
    | nil => have z := r2.nil_inv; cases z
    | cons e es =>
     obtain ⟨v', r', z, b1, b2⟩ := r2.cons_inv
     cases z
     simp only [plns, Bool.and_eq_true] at p1 p2
     simp only [eqDs, Bool.and_eq_true]
     exact ⟨ih d e v p1.1 p2.1 (.inl a1) (.inl b1), ih2 es r p1.2 p2.2 a2 b2⟩
  intro d e v pd pe gd ge
  cases d with
  | tup xs =>
   obtain ⟨a, vs, rfl, q, r⟩ := gd.tup
   cases e with
   | tup ys =>
    obtain ⟨a', vs', z, q', r'⟩ := ge.tup
    cases z
    have := I.tuple_inj q q'
    subst this
    simp only [pln, Bool.and_eq_true, decide_eq_true_eq] at pd pe
    simpa only [eqD] using many (N - 1) (Nat.sub_lt pd.1 Nat.one_pos) xs ys vs pd.2 pe.2 r r'
   | lst ys =>
    obtain ⟨a', vs', z, q', r'⟩ := ge.lst
    cases z
    exact (eM I q' q).elim
   | int i => have z := ge.int; cases z
   | bl i => have z := ge.bl; cases z
   | non => have z := ge.non; cases z
   | str i => have z := ge.str; cases z
   | dic _ _ => simp [pln] at pe
   | exn _ => simp [pln] at pe
   | scr _ => simp [pln] at pe
  | lst xs =>
   obtain ⟨a, vs, rfl, q, r⟩ := gd.lst
   cases e with
   | tup ys =>
    obtain ⟨a', vs', z, q', r'⟩ := ge.tup
    cases z
    exact (eM I q q').elim
   | lst ys =>
    obtain ⟨a', vs', z, q', r'⟩ := ge.lst
    cases z
    rw [q] at q'; cases q'
    simp only [pln, Bool.and_eq_true, decide_eq_true_eq] at pd pe
    simpa only [eqD] using many (N - 1) (Nat.sub_lt pd.1 Nat.one_pos) xs ys vs pd.2 pe.2 r r'
   | int i => have z := ge.int; cases z
   | bl i => have z := ge.bl; cases z
   | non => have z := ge.non; cases z
   | str i => have z := ge.str; cases z
   | dic _ _ => simp [pln] at pe
   | exn _ => simp [pln] at pe
   | scr _ => simp [pln] at pe
  | dic _ _ => simp [pln] at pd
  | exn _ => simp [pln] at pd
  | scr _ => simp [pln] at pd
  | non =>
   have z := gd.non; subst z
   cases e with
   | non => rfl
   | tup ys => obtain ⟨_, _, z, _⟩ := ge.tup; cases z
   | lst ys => obtain ⟨_, _, z, _⟩ := ge.lst; cases z
   | int i => have z := ge.int; cases z
   | bl i => have z := ge.bl; cases z
   | str i => have z := ge.str; cases z
   | dic _ _ => simp [pln] at pe
   | exn _ => simp [pln] at pe
   | scr _ => simp [pln] at pe
  | bl b =>
   have z := gd.bl; subst z
   cases e with
   | non => have z := ge.non; cases z
   | tup ys => obtain ⟨_, _, z, _⟩ := ge.tup; cases z
   | lst ys => obtain ⟨_, _, z, _⟩ := ge.lst; cases z
   | int i => have z := ge.int; cases z
   | bl i => have z := ge.bl; cases z; simp [eqD]
   | str i => have z := ge.str; cases z
   | dic _ _ => simp [pln] at pe
   | exn _ => simp [pln] at pe
   | scr _ => simp [pln] at pe
  | int b =>
   have z := gd.int; subst z
   cases e with
   | non => have z := ge.non; cases z
   | tup ys => obtain ⟨_, _, z, _⟩ := ge.tup; cases z
   | lst ys => obtain ⟨_, _, z, _⟩ := ge.lst; cases z
   | int i => have z := ge.int; cases z; simp [eqD]
   | bl i => have z := ge.bl; cases z
   | str i => have z := ge.str; cases z
   | dic _ _ => simp [pln] at pe
   | exn _ => simp [pln] at pe
   | scr _ => simp [pln] at pe
  | str b =>
   have z := gd.str; subst z
   cases e with
   | non => have z := ge.non; cases z
   | tup ys => obtain ⟨_, _, z, _⟩ := ge.tup; cases z
   | lst ys => obtain ⟨_, _, z, _⟩ := ge.lst; cases z
   | int i => have z := ge.int; cases z
   | bl i => have z := ge.bl; cases z
   | str i => have z := ge.str; simp at z; simp [eqD, z]
   | dic _ _ => simp [pln] at pe
   | exn _ => simp [pln] at pe
   | scr _ => simp [pln] at pe
end
end L2.Snd
namespace L2.Snd
open PySem PySem.Spec PyProof.Rows L2 Py
theorem eY (x y : List Nat) : ((⟨x.toArray⟩ : Str) == ⟨y.toArray⟩) = (x == y) := by
 rw [Bool.eq_iff_iff]
 simp
theorem Reps.at {K : PySem.W.Frag} {cl : Nat → Addr} {F : Addr → Prop} {H : Hp} {ds : List D} {vs : List V} (r : Reps K cl F H ds vs) {i : Nat} (h : i < ds.length) : ∃ v, vs[i]? = some v ∧ Rep K cl F H (ds.getD i .non) v := by
 obtain ⟨v, h1, h2⟩ := r.get (i := i) (d := ds.getD i .non) (by simp [List.getD, List.getElem?_eq_getElem h])
 exact ⟨v, h1, h2⟩
theorem fN {n : Nat} : ∀ {ds : List D} {i : Nat}, plns n ds = true → i < ds.length → pln n (ds.getD i .non) = true
 | [], _, _, h => by simp at h
 | d :: ds, 0, p, _ => by simp only [plns, Bool.and_eq_true] at p; simpa using p.1
 | d :: ds, i + 1, p, h => by
  simp only [plns, Bool.and_eq_true] at p
  simpa using fN (i := i) p.2 (by simpa using h)
section
variable {X : Cx} {pins : List (Addr × Obj)} {σ : St} {H : Hp} {s : Shared} {cl : Nat → Addr} {F : Addr → Prop}
theorem dG (I : Inv X pins σ H s) {n : Nat} {A : Around} (ih : ∀ (d e : D) (x y : V) (u w : Value), pln n d = true → pln n e = true → Got X.K cl F H d x → Got X.K cl F H e y → RelV x u → RelV y w → SeqAt.EqAt A s u w (eqD d e))
  {ds es : List D} {vs ws : List V} {us zs : List Value} (r1 : Reps X.K cl F H ds vs) (r2 : Reps X.K cl F H es ws) (p1 : plns n ds = true) (p2 : plns n es = true) (q1 : Vals vs us) (q2 : Vals ws zs)
  (j : Nat) (h1 : j < us.toArray.size) (h2 : j < zs.toArray.size) : SeqAt.EqAt A s us.toArray[j] zs.toArray[j] (eqD (ds.getD j .non) (es.getD j .non)) := by
 have l1 : j < ds.length := by rw [← r1.length, q1.length]; simpa using h1
 have l2 : j < es.length := by rw [← r2.length, q2.length]; simpa using h2
 obtain ⟨v, e1, a1⟩ := r1.at l1
 obtain ⟨w, e2, a2⟩ := r2.at l2
 obtain ⟨u, f1, b1⟩ := q1.get e1
 obtain ⟨z, f2, b2⟩ := q2.get e2
 have g1 : us.toArray[j] = u := by
  have : j < us.length := by simpa using h1
  simpa [this] using f1
 have g2 : zs.toArray[j] = z := by
  have : j < zs.length := by simpa using h2
  simpa [this] using f2
 rw [g1, g2]
 exact ih _ _ v w u z (fN p1 l1) (fN p2 l2) (.inl a1) (.inl a2) b1 b2
theorem kM (I : Inv X pins σ H s) {n : Nat} {A : Around} (hu : A.units < cLine) (ih : ∀ (d e : D) (x y : V) (u w : Value), pln n d = true → pln n e = true → Got X.K cl F H d x → Got X.K cl F H e y → RelV x u → RelV y w → SeqAt.EqAt A.in1 s u w (eqD d e))
  {ds es : List D} {a b : Addr} {vs ws : List V} (p1 : plns n ds = true) (p2 : plns n es = true) (h1 : SqT X.K H a vs) (h2 : SqT X.K H b ws) (r1 : Reps X.K cl F H ds vs) (r2 : Reps X.K cl F H es ws) :
  ∃ items items2 e, s.heap.IsTuple a items ∧ s.heap.IsTuple b items2 ∧ (∀ j (g1 : j < items.size) (g2 : j < items2.size), SeqAt.EqAt A.in1 s items[j] items2[j] (e j)) ∧
   ((List.range (min items.size items2.size)).all e && items.size == items2.size) = eqDs ds es := by
 obtain ⟨its, q1, t1, _⟩ := I.tuple h1
 obtain ⟨its2, q2, t2, _⟩ := I.tuple h2
 refine ⟨its.toArray, its2.toArray, fun j => eqD (ds.getD j .non) (es.getD j .non), t1, t2, dG I ih r1 r2 p1 p2 q1 q2, ?_⟩
 have l1 : its.toArray.size = ds.length := by rw [List.size_toArray, ← q1.length, r1.length]
 have l2 : its2.toArray.size = es.length := by rw [List.size_toArray, ← q2.length, r2.length]
 rw [l1, l2]
 by_cases hl : ds.length = es.length
 ·rw [fM ds es hl, hl]; simp
 ·have : eqDs ds es = false := by
   cases h : eqDs ds es with
   | false => rfl
   | true => exact absurd (fK h) hl
  rw [this]; simp [hl]
theorem kN (I : Inv X pins σ H s) {n : Nat} {A : Around} (hu : A.units < cLine) (ih : ∀ (d e : D) (x y : V) (u w : Value), pln n d = true → pln n e = true → Got X.K cl F H d x → Got X.K cl F H e y → RelV x u → RelV y w → SeqAt.EqAt A.in1 s u w (eqD d e))
  {ds es : List D} {a b : Addr} {vs ws : List V} (p1 : plns n ds = true) (p2 : plns n es = true) (h1 : H a = some (.lst vs)) (h2 : H b = some (.lst ws)) (r1 : Reps X.K cl F H ds vs) (r2 : Reps X.K cl F H es ws) :
  SeqAt.RcAt A s (.ref a) (.ref b) (eqDs ds es) ∧ SeqAt.RcNeAt A s (.ref a) (.ref b) (!eqDs ds es) := by
 obtain ⟨its, q1, t1, _⟩ := I.list (SqL.of (K := X.K) h1)
 obtain ⟨its2, q2, t2, _⟩ := I.list (SqL.of (K := X.K) h2)
 have l1 : its.toArray.size = ds.length := by rw [List.size_toArray, ← q1.length, r1.length]
 have l2 : its2.toArray.size = es.length := by rw [List.size_toArray, ← q2.length, r2.length]
 by_cases hl : ds.length = es.length
 ·have hs : its.toArray.size = its2.toArray.size := by rw [l1, l2, hl]
  have e1 := SeqAt.RcAt.lists (e := fun j => eqD (ds.getD j .non) (es.getD j .non)) t1.isList t2.isList hs hu (dG I ih r1 r2 p1 p2 q1 q2)
  have e2 := SeqAt.RcNeAt.lists (e := fun j => eqD (ds.getD j .non) (es.getD j .non)) t1.isList t2.isList hs hu (dG I ih r1 r2 p1 p2 q1 q2)
  rw [l1, ← fM ds es hl] at e1 e2
  exact ⟨e1, e2⟩
 ·have : eqDs ds es = false := by
   cases h : eqDs ds es with
   | false => rfl
   | true => exact absurd (fK h) hl
  rw [this]
  have hs : (its.toArray.size != its2.toArray.size) = true := by rw [l1, l2]; simpa using hl
  exact ⟨SeqAt.RcAt.lists_lengths t1.isList t2.isList hs hu, SeqAt.RcNeAt.lists_lengths t1.isList t2.isList hs hu⟩
theorem o7 (I : Inv X pins σ H s) : ∀ (n : Nat) (A : Around), A.units + n < cLine → ∀ (d e : D) (x y : V) (u w : Value), pln n d = true → pln n e = true → Got X.K cl F H d x → Got X.K cl F H e y → RelV x u → RelV y w →
  SeqAt.EqAt A s u w (eqD d e) := by
 intro n
 induction n using Nat.strongRecOn with
 | ind N ih0 =>
  intro A hu d e x y u w pd pe gd ge rx ry
  have hu0 : A.units < cLine := by omega
  have tupR : ∀ {a : Addr} {vs : List V}, SqT X.K H a vs → ∃ its, s.heap.IsTuple a its := fun h => let ⟨its, _, t, _⟩ := I.tuple h; ⟨_, t⟩
  have lstR : ∀ {a : Addr} {vs : List V}, H a = some (.lst vs) → ∃ its, s.heap.IsList a its := fun h => let ⟨its, _, t, _⟩ := I.list (SqL.of (K := X.K) h); ⟨_, t.isList⟩
  cases d with
  | dic _ _ => simp [pln] at pd
  | exn _ => simp [pln] at pd
  | scr _ => simp [pln] at pd
  | tup ds =>
   obtain ⟨a, vs, rfl, h1, r1⟩ := gd.tup
   cases (show u = Value.ref a from rx)
   obtain ⟨it1, t1⟩ := tupR h1
   have pd' := pd
   simp only [pln, Bool.and_eq_true, decide_eq_true_eq] at pd
   cases e with
   | dic _ _ => simp [pln] at pe
   | exn _ => simp [pln] at pe
   | scr _ => simp [pln] at pe
   | tup es =>
    obtain ⟨b, ws, rfl, h2, r2⟩ := ge.tup
    cases (show w = Value.ref b from ry)
    have pe' := pe
    simp only [pln, Bool.and_eq_true, decide_eq_true_eq] at pe
    by_cases hab : a = b
    ·subst hab
     rw [lZ I N (.tup ds) (.tup es) (.ref a) pd' pe' gd ge]
     exact SeqAt.EqAt.same _
    ·obtain ⟨i1, i2, ee, a1, a2, a3, a4⟩ := kM I (A := A) hu0 (ih0 (N - 1) (Nat.sub_lt pd.1 Nat.one_pos) A.in1 (by show A.units + 1 + (N - 1) < cLine; omega)) pd.2 pe.2 h1 h2 r1 r2
     have := SeqAt.EqAt.of_refs hab (SeqAt.RcAt.tuples a1 a2 hu0 a3)
     rw [a4] at this
     simpa only [eqD] using this
   | lst es =>
    obtain ⟨b, ws, rfl, h2, r2⟩ := ge.lst
    cases (show w = Value.ref b from ry)
    obtain ⟨it2, t2⟩ := lstR h2
    simpa only [eqD] using SeqAt.EqAt.tuple_list t1 t2 hu0
   | non => rw [ge.non] at ry; cases ry; simpa only [eqD] using SeqAt.EqAt.tuple_none t1 hu0
   | bl b => rw [ge.bl] at ry; cases ry; simpa only [eqD] using SeqAt.EqAt.tuple_bool b t1 hu0
   | int b => rw [ge.int] at ry; obtain ⟨t, rfl⟩ := ry; simpa only [eqD] using SeqAt.EqAt.tuple_int b t t1 hu0
   | str b => rw [ge.str] at ry; obtain ⟨t, rfl⟩ := ry; simpa only [eqD] using SeqAt.EqAt.tuple_str _ t t1 hu0
  | lst ds =>
   obtain ⟨a, vs, rfl, h1, r1⟩ := gd.lst
   cases (show u = Value.ref a from rx)
   obtain ⟨it1, t1⟩ := lstR h1
   have pd' := pd
   simp only [pln, Bool.and_eq_true, decide_eq_true_eq] at pd
   cases e with
   | dic _ _ => simp [pln] at pe
   | exn _ => simp [pln] at pe
   | scr _ => simp [pln] at pe
   | lst es =>
    obtain ⟨b, ws, rfl, h2, r2⟩ := ge.lst
    cases (show w = Value.ref b from ry)
    have pe' := pe
    simp only [pln, Bool.and_eq_true, decide_eq_true_eq] at pe
    by_cases hab : a = b
    ·subst hab
     rw [lZ I N (.lst ds) (.lst es) (.ref a) pd' pe' gd ge]
     exact SeqAt.EqAt.same _
    ·have := SeqAt.EqAt.of_refs hab (kN I (A := A) hu0 (ih0 (N - 1) (Nat.sub_lt pd.1 Nat.one_pos) A.in1 (by show A.units + 1 + (N - 1) < cLine; omega)) pd.2 pe.2 h1 h2 r1 r2).1
     simpa only [eqD] using this
   | tup es =>
    obtain ⟨b, ws, rfl, h2, r2⟩ := ge.tup
    cases (show w = Value.ref b from ry)
    obtain ⟨it2, t2⟩ := tupR h2
    simpa only [eqD] using SeqAt.EqAt.list_tuple t1 t2 hu0
   | non => rw [ge.non] at ry; cases ry; simpa only [eqD] using SeqAt.EqAt.list_none t1 hu0
   | bl b => rw [ge.bl] at ry; cases ry; simpa only [eqD] using SeqAt.EqAt.list_bool b t1 hu0
   | int b => rw [ge.int] at ry; obtain ⟨t, rfl⟩ := ry; simpa only [eqD] using SeqAt.EqAt.list_int b t t1 hu0
   | str b => rw [ge.str] at ry; obtain ⟨t, rfl⟩ := ry; simpa only [eqD] using SeqAt.EqAt.list_str _ t t1 hu0
  | non =>
   rw [gd.non] at rx; cases rx
   cases e with
   | dic _ _ => simp [pln] at pe
   | exn _ => simp [pln] at pe
   | scr _ => simp [pln] at pe
   | tup es => obtain ⟨b, ws, rfl, h2, r2⟩ := ge.tup; cases (show w = Value.ref b from ry); obtain ⟨it2, t2⟩ := tupR h2; simpa only [eqD] using SeqAt.EqAt.none_tuple t2 hu0
   | lst es => obtain ⟨b, ws, rfl, h2, r2⟩ := ge.lst; cases (show w = Value.ref b from ry); obtain ⟨it2, t2⟩ := lstR h2; simpa only [eqD] using SeqAt.EqAt.none_list t2 hu0
   | non => rw [ge.non] at ry; simpa only [eqD, eqV] using bC (y := .non) (x := .non) rfl ry rfl rfl
   | bl b => rw [ge.bl] at ry; simpa only [eqD, eqV] using bC (y := .non) (x := .bl b) rfl ry rfl rfl
   | int b => rw [ge.int] at ry; simpa only [eqD, eqV] using bC (y := .non) (x := .int b) rfl ry rfl rfl
   | str b => rw [ge.str] at ry; simpa only [eqD, eqV] using bC (y := .non) (x := .str _) rfl ry rfl rfl
  | bl c =>
   rw [gd.bl] at rx
   cases e with
   | dic _ _ => simp [pln] at pe
   | exn _ => simp [pln] at pe
   | scr _ => simp [pln] at pe
   | tup es => cases rx; obtain ⟨b, ws, rfl, h2, r2⟩ := ge.tup; cases (show w = Value.ref b from ry); obtain ⟨it2, t2⟩ := tupR h2; simpa only [eqD] using SeqAt.EqAt.bool_tuple c t2 hu0
   | lst es => cases rx; obtain ⟨b, ws, rfl, h2, r2⟩ := ge.lst; cases (show w = Value.ref b from ry); obtain ⟨it2, t2⟩ := lstR h2; simpa only [eqD] using SeqAt.EqAt.bool_list c t2 hu0
   | non => rw [ge.non] at ry; simpa only [eqD, eqV] using bC (y := .bl c) (x := .non) rx ry rfl rfl
   | bl b => rw [ge.bl] at ry; simpa only [eqD, eqV] using bC (y := .bl c) (x := .bl b) rx ry rfl rfl
   | int b => rw [ge.int] at ry; simpa only [eqD, eqV] using bC (y := .bl c) (x := .int b) rx ry rfl rfl
   | str b => rw [ge.str] at ry; simpa only [eqD, eqV] using bC (y := .bl c) (x := .str _) rx ry rfl rfl
  | int c =>
   rw [gd.int] at rx
   cases e with
   | dic _ _ => simp [pln] at pe
   | exn _ => simp [pln] at pe
   | scr _ => simp [pln] at pe
   | tup es => obtain ⟨t, rfl⟩ := rx; obtain ⟨b, ws, rfl, h2, r2⟩ := ge.tup; cases (show w = Value.ref b from ry); obtain ⟨it2, t2⟩ := tupR h2; simpa only [eqD] using SeqAt.EqAt.int_tuple c t t2 hu0
   | lst es => obtain ⟨t, rfl⟩ := rx; obtain ⟨b, ws, rfl, h2, r2⟩ := ge.lst; cases (show w = Value.ref b from ry); obtain ⟨it2, t2⟩ := lstR h2; simpa only [eqD] using SeqAt.EqAt.int_list c t t2 hu0
   | non => rw [ge.non] at ry; simpa only [eqD, eqV] using bC (y := .int c) (x := .non) rx ry rfl rfl
   | bl b => rw [ge.bl] at ry; simpa only [eqD, eqV] using bC (y := .int c) (x := .bl b) rx ry rfl rfl
   | int b => rw [ge.int] at ry; simpa only [eqD, eqV] using bC (y := .int c) (x := .int b) rx ry rfl rfl
   | str b => rw [ge.str] at ry; simpa only [eqD, eqV] using bC (y := .int c) (x := .str _) rx ry rfl rfl
  | str c =>
   rw [gd.str] at rx
   cases e with
   | dic _ _ => simp [pln] at pe
   | exn _ => simp [pln] at pe
   | scr _ => simp [pln] at pe
   | tup es => obtain ⟨t, rfl⟩ := rx; obtain ⟨b, ws, rfl, h2, r2⟩ := ge.tup; cases (show w = Value.ref b from ry); obtain ⟨it2, t2⟩ := tupR h2; simpa only [eqD] using SeqAt.EqAt.str_tuple _ t t2 hu0
   | lst es => obtain ⟨t, rfl⟩ := rx; obtain ⟨b, ws, rfl, h2, r2⟩ := ge.lst; cases (show w = Value.ref b from ry); obtain ⟨it2, t2⟩ := lstR h2; simpa only [eqD] using SeqAt.EqAt.str_list _ t t2 hu0
   | non => rw [ge.non] at ry; simpa only [eqD, eqV] using bC (y := .str _) (x := .non) rx ry rfl rfl
   | bl b => rw [ge.bl] at ry; simpa only [eqD, eqV] using bC (y := .str _) (x := .bl b) rx ry rfl rfl
   | int b => rw [ge.int] at ry; simpa only [eqD, eqV] using bC (y := .str _) (x := .int b) rx ry rfl rfl
   | str b =>
    rw [ge.str] at ry
    have := bC (A := A) (s := s) (y := .str _) (x := .str _) rx ry rfl rfl
    have e : eqV (.str ⟨c.toArray⟩) (.str ⟨b.toArray⟩) = (c == b) := eY c b
    rw [e] at this
    simpa only [eqD] using this
def rEqD (K : PySem.W.Frag) (cl : Nat → Addr) (neg : Bool) : R2 := fun x y H Q => ∃ F p q, Got K cl F H p x ∧ Got K cl F H q y ∧ pln 9 p = true ∧ pln 9 q = true ∧ kin p q = true ∧ Q (.bl (if neg then !eqD p q else eqD p q)) H
theorem op_eqD (hu : X.A.units + 20 < cLine) : OpR X (compareOp .Eq) (rEqD X.K cl false) := by
 intro pins s σ H x y v u Q I rx ry h
 obtain ⟨F, p, q, g1, g2, p1, p2, k, hq⟩ := h
 rw [if_neg Bool.false_ne_true] at hq
 have ih := o7 (cl := cl) (F := F) I 8 X.A.in1 (by show X.A.units + 1 + 8 < cLine; omega)
 cases p <;> cases q <;> first | (simp [kin] at k; done) | skip
 ·rename_i a b
  have e1 := g1.bl; have e2 := g2.bl; subst e1 e2
  exact oJ pins s σ H _ _ v u Q I rx ry ⟨rfl, by rw [iH]; exact hq⟩
 ·rename_i a b
  have e1 := g1.int; have e2 := g2.int; subst e1 e2
  exact oJ pins s σ H _ _ v u Q I rx ry ⟨rfl, by rw [eW]; exact hq⟩
 ·rename_i a b
  have e1 := g1.str; have e2 := g2.str; subst e1 e2
  exact oJ pins s σ H _ _ v u Q I rx ry ⟨rfl, by rw [eX, eY]; exact hq⟩
 ·rename_i ds es
  obtain ⟨a, vs, rfl, h1, r1⟩ := g1.tup
  obtain ⟨b, ws, rfl, h2, r2⟩ := g2.tup
  cases (show v = Value.ref a from rx)
  cases (show u = Value.ref b from ry)
  simp only [pln, Bool.and_eq_true] at p1 p2
  obtain ⟨i1, i2, ee, a1, a2, a3, a4⟩ := kM I (A := X.A) (by omega) ih p1.2 p2.2 h1 h2 r1 r2
  refine SeqAt.RcAt.tuples a1 a2 (by omega) a3 X.prog X.w X.xe _ ?_
  rw [a4]
  exact ⟨.bl _, H, I, rfl, hq⟩
 ·rename_i ds es
  obtain ⟨a, vs, rfl, h1, r1⟩ := g1.lst
  obtain ⟨b, ws, rfl, h2, r2⟩ := g2.lst
  cases (show v = Value.ref a from rx)
  cases (show u = Value.ref b from ry)
  simp only [pln, Bool.and_eq_true] at p1 p2
  exact (kN I (A := X.A) (by omega) ih p1.2 p2.2 h1 h2 r1 r2).1 X.prog X.w X.xe _ ⟨.bl _, H, I, rfl, hq⟩
theorem op_neD (hu : X.A.units + 20 < cLine) : OpR X (compareOp .NotEq) (rEqD X.K cl true) := by
 intro pins s σ H x y v u Q I rx ry h
 obtain ⟨F, p, q, g1, g2, p1, p2, k, hq⟩ := h
 rw [if_pos rfl] at hq
 have ih := o7 (cl := cl) (F := F) I 8 X.A.in1 (by show X.A.units + 1 + 8 < cLine; omega)
 cases p <;> cases q <;> first | (simp [kin] at k; done) | skip
 ·rename_i a b
  have e1 := g1.bl; have e2 := g2.bl; subst e1 e2
  exact oK pins s σ H _ _ v u Q I rx ry ⟨rfl, by rw [iH]; exact hq⟩
 ·rename_i a b
  have e1 := g1.int; have e2 := g2.int; subst e1 e2
  exact oK pins s σ H _ _ v u Q I rx ry ⟨rfl, by rw [eW]; exact hq⟩
 ·rename_i a b
  have e1 := g1.str; have e2 := g2.str; subst e1 e2
  exact oK pins s σ H _ _ v u Q I rx ry ⟨rfl, by rw [eX, eY]; exact hq⟩
 ·rename_i ds es
  obtain ⟨a, vs, rfl, h1, r1⟩ := g1.tup
  obtain ⟨b, ws, rfl, h2, r2⟩ := g2.tup
  cases (show v = Value.ref a from rx)
  cases (show u = Value.ref b from ry)
  simp only [pln, Bool.and_eq_true] at p1 p2
  obtain ⟨i1, i2, ee, a1, a2, a3, a4⟩ := kM I (A := X.A) (by omega) ih p1.2 p2.2 h1 h2 r1 r2
  refine SeqAt.RcNeAt.tuples a1 a2 (by omega) a3 X.prog X.w X.xe _ ?_
  rw [a4]
  exact ⟨.bl _, H, I, rfl, hq⟩
 ·rename_i ds es
  obtain ⟨a, vs, rfl, h1, r1⟩ := g1.lst
  obtain ⟨b, ws, rfl, h2, r2⟩ := g2.lst
  cases (show v = Value.ref a from rx)
  cases (show u = Value.ref b from ry)
  simp only [pln, Bool.and_eq_true] at p1 p2
  exact (kN I (A := X.A) (by omega) ih p1.2 p2.2 h1 h2 r1 r2).2 X.prog X.w X.xe _ ⟨.bl _, H, I, rfl, hq⟩
end
end L2.Snd
namespace L2.Snd
open PySem PySem.Spec PyProof.Rows L2 Py
theorem iN {n : Nat} (h : n ≤ LIM) : n ≤ sizeLine := Nat.le_trans h (by decide)
section
variable {X : Cx} {cl : Nat → Addr} {XE : Nat → St → Hp → Prop} {YE : Nat → Hp → Prop} {Φ : Nat → List D → R D} {G : List D} {m fr : Bool} {F : Addr → Prop} {H : Hp} {Q : VK} {x y : V} {p q : D}
theorem Post.no (h : Post X.K cl YE m fr F H Q .bad) : False := h
theorem Post.int {i : Int} (h : Post X.K cl YE m fr F H Q (.ok (.int i))) : Q (.int i) H := Post.hereR h (by simp [Rep]) (by simp [isOwn])
theorem Post.bl {i : Bool} (h : Post X.K cl YE m fr F H Q (.ok (.bl i))) : Q (.bl i) H := Post.hereR h (by simp [Rep]) (by simp [isOwn])
theorem Post.newl {ds : List D} {vs : List V} {p : Addr} (h : Post X.K cl YE m true F H Q (.ok (.lst ds))) (r : Reps X.K cl F H ds vs) (hF : ¬ F p) (hp : H p = none) : Q (.ref p) (L2.upd H p (.lst vs)) := by
 refine h F (.ref p) _ (Up.alloc hp) (Res.gives ?_)
 unfold Res
 rw [if_pos (by simp [isOwn])]
 exact ⟨p, rfl, hp, hF, vs, aO, r.up (Up.alloc hp)⟩
theorem Post.newt {ds : List D} {vs : List V} {p : Addr} (h : Post X.K cl YE m fr F H Q (.ok (.tup ds))) (r : Reps X.K cl F H ds vs) (hp : H p = none) : Q (.ref p) (L2.upd H p (.tup vs)) := by
 refine h F (.ref p) _ (Up.alloc hp) (Res.gives (.of_rep ?_ (by simp [isOwn])))
 simp only [Rep]
 exact ⟨p, vs, rfl, .inl (.inl aO), r.up (Up.alloc hp)⟩
theorem ho_add (t : Trk F H) (g1 : Got X.K cl F H p x) (g2 : Got X.K cl F H q y) (h : Post X.K cl YE m true F H Q (op2 .add p q)) : rI0 (fun i j => .int (i + j)) x y H Q ∨ rCat x y H Q ∨ rCatTW X.K x y H Q := by
 cases p <;> cases q <;> first | exact (show False from h).elim | skip
 ·rw [g1.int, g2.int]
  exact .inl ⟨_, _, rfl, rfl, Post.int h⟩
 ·rename_i ds es
  have h' : Post X.K cl YE m true F H Q (if ds.length + es.length ≤ LIM then .ok (.tup (ds ++ es)) else .bad) := h
  by_cases hc : ds.length + es.length ≤ LIM
  ·rw [if_pos hc] at h'
   obtain ⟨a, vs, rfl, h1, r1⟩ := g1.tup
   obtain ⟨b, ws, rfl, h2, r2⟩ := g2.tup
   refine .inr (.inr ⟨a, b, vs, ws, rfl, rfl, h1, h2, by rw [r1.length, r2.length]; exact iN hc, fun e => ?_, fun _ e => ?_, fun _ _ l hl => Post.newt h' (r1.append r2) hl⟩)
   ·subst e
    have e : ds = [] := by have := r1.length; cases ds with | nil => rfl | cons _ _ => simp at this
    subst e
    exact Post.hereR h' (by rw [List.nil_append]; simp only [Rep]; exact ⟨b, ws, rfl, h2, r2⟩) (by simp [isOwn])
   ·subst e
    have e : es = [] := by have := r2.length; cases es with | nil => rfl | cons _ _ => simp at this
    subst e
    exact Post.hereR h' (by rw [List.append_nil]; simp only [Rep]; exact ⟨a, vs, rfl, h1, r1⟩) (by simp [isOwn])
  ·rw [if_neg hc] at h'; exact h'.no.elim
 ·rename_i ds es
  have h' : Post X.K cl YE m true F H Q (if ds.length + es.length ≤ LIM then .ok (.lst (ds ++ es)) else .bad) := h
  by_cases hc : ds.length + es.length ≤ LIM
  ·rw [if_pos hc] at h'
   obtain ⟨a, vs, rfl, h1, r1⟩ := g1.lst
   obtain ⟨b, ws, rfl, h2, r2⟩ := g2.lst
   exact .inr (.inl ⟨a, b, vs, ws, rfl, rfl, h1, h2, by rw [r1.length, r2.length]; exact iN hc, fun l hl => Post.newl h' (r1.append r2) (t.fresh hl) hl⟩)
  ·rw [if_neg hc] at h'; exact h'.no.elim
theorem eZ {o : Op2} {C : Int → Int → Prop} [∀ i j, Decidable (C i j)] {f : Int → Int → D} {k : Int → Int → V} (ho : ∀ p q, (∃ i j, p = .int i ∧ q = .int j ∧ op2 o p q = if C i j then .ok (f i j) else .bad) ∨ op2 o p q = .bad)
  (hk : ∀ i j, Rep X.K cl F H (f i j) (k i j)) (hn : ∀ i j, isOwn (f i j) = false) (g1 : Got X.K cl F H p x) (g2 : Got X.K cl F H q y) (h : Post X.K cl YE m fr F H Q (op2 o p q)) : rI C k x y H Q := by
 rcases ho p q with ⟨i, j, rfl, rfl, e⟩ | e
 ·rw [e] at h
  by_cases hc : C i j
  ·rw [if_pos hc] at h
   exact ⟨i, j, g1.int, g2.int, hc, Post.hereR h (hk i j) (by rw [hn]; simp)⟩
  ·rw [if_neg hc] at h; exact h.no.elim
 ·rw [e] at h; exact h.no.elim
theorem dU {o : Op2} {f : Int → Int → D} {k : Int → Int → V} (ho : ∀ p q, (∃ i j, p = .int i ∧ q = .int j ∧ op2 o p q = .ok (f i j)) ∨ op2 o p q = .bad)
  (hk : ∀ i j, Rep X.K cl F H (f i j) (k i j)) (hn : ∀ i j, isOwn (f i j) = false) (g1 : Got X.K cl F H p x) (g2 : Got X.K cl F H q y) (h : Post X.K cl YE m fr F H Q (op2 o p q)) : rI0 k x y H Q := by
 rcases ho p q with ⟨i, j, rfl, rfl, e⟩ | e
 ·rw [e] at h
  exact ⟨i, j, g1.int, g2.int, Post.hereR h (hk i j) (by rw [hn]; simp)⟩
 ·rw [e] at h; exact h.no.elim
theorem sp_sub (p q : D) : (∃ i j, p = .int i ∧ q = .int j ∧ op2 .sub p q = .ok (.int (i - j))) ∨ op2 .sub p q = .bad := by
 cases p <;> cases q <;> first | exact .inr rfl | exact .inl ⟨_, _, rfl, rfl, rfl⟩
theorem sp_mul (p q : D) : (∃ i j, p = .int i ∧ q = .int j ∧ op2 .mul p q = if (-(2 ^ 64) < i ∧ i < 2 ^ 64) ∨ (-(2 ^ 64) < j ∧ j < 2 ^ 64) then R.ok (.int (i * j)) else R.bad) ∨ op2 .mul p q = .bad := by
 cases p <;> cases q <;> first | exact .inr rfl | exact .inl ⟨_, _, rfl, rfl, rfl⟩
theorem sp_mod (p q : D) : (∃ i j, p = .int i ∧ q = .int j ∧ op2 .mod p q = if 0 < j then R.ok (.int (i % j)) else R.bad) ∨ op2 .mod p q = .bad := by
 cases p <;> cases q <;> first | exact .inr rfl | exact .inl ⟨_, _, rfl, rfl, rfl⟩
theorem sp_fdiv (p q : D) : (∃ i j, p = .int i ∧ q = .int j ∧ op2 .fdiv p q = if 0 < j ∧ j < 1073741824 then R.ok (.int (i / j)) else R.bad) ∨ op2 .fdiv p q = .bad := by
 cases p <;> cases q <;> first | exact .inr rfl | exact .inl ⟨_, _, rfl, rfl, rfl⟩
theorem sp_pow (p q : D) : (∃ i j, p = .int i ∧ q = .int j ∧ op2 .pow p q = if 0 ≤ j ∧ j ≤ 1000000 ∧ i.natAbs < 2 ^ 64 then R.ok (.int (i ^ j.toNat)) else R.bad) ∨ op2 .pow p q = .bad := by
 cases p <;> cases q <;> first | exact .inr rfl | exact .inl ⟨_, _, rfl, rfl, rfl⟩
theorem sp_lt (p q : D) : (∃ i j, p = .int i ∧ q = .int j ∧ op2 .lt p q = .ok (.bl (decide (i < j)))) ∨ op2 .lt p q = .bad := by
 cases p <;> cases q <;> first | exact .inr rfl | exact .inl ⟨_, _, rfl, rfl, rfl⟩
theorem sp_gt (p q : D) : (∃ i j, p = .int i ∧ q = .int j ∧ op2 .gt p q = .ok (.bl (decide (j < i)))) ∨ op2 .gt p q = .bad := by
 cases p <;> cases q <;> first | exact .inr rfl | exact .inl ⟨_, _, rfl, rfl, rfl⟩
theorem sp_ge (p q : D) : (∃ i j, p = .int i ∧ q = .int j ∧ op2 .ge p q = .ok (.bl (decide (j ≤ i)))) ∨ op2 .ge p q = .bad := by
 cases p <;> cases q <;> first | exact .inr rfl | exact .inl ⟨_, _, rfl, rfl, rfl⟩
theorem ho_eq (g1 : Got X.K cl F H p x) (g2 : Got X.K cl F H q y) (h : Post X.K cl YE m fr F H Q (op2 .eq p q)) : rEqD X.K cl false x y H Q := by
 have h' : Post X.K cl YE m fr F H Q (if (pln 9 p && pln 9 q && kin p q) = true then .ok (.bl (eqD p q)) else .bad) := h
 by_cases hc : (pln 9 p && pln 9 q && kin p q) = true
 ·rw [if_pos hc] at h'
  simp only [Bool.and_eq_true] at hc
  exact ⟨F, p, q, g1, g2, hc.1.1, hc.1.2, hc.2, by rw [if_neg Bool.false_ne_true]; exact Post.bl h'⟩
 ·rw [if_neg hc] at h'; exact h'.no.elim
theorem ho_ne (g1 : Got X.K cl F H p x) (g2 : Got X.K cl F H q y) (h : Post X.K cl YE m fr F H Q (op2 .ne p q)) : rEqD X.K cl true x y H Q := by
 have h' : Post X.K cl YE m fr F H Q (if (pln 9 p && pln 9 q && kin p q) = true then .ok (.bl (!eqD p q)) else .bad) := h
 by_cases hc : (pln 9 p && pln 9 q && kin p q) = true
 ·rw [if_pos hc] at h'
  simp only [Bool.and_eq_true] at hc
  exact ⟨F, p, q, g1, g2, hc.1.1, hc.1.2, hc.2, by rw [if_pos rfl]; exact Post.bl h'⟩
 ·rw [if_neg hc] at h'; exact h'.no.elim
theorem e9 {d : D} {v : V} (g : Got X.K cl F H d v) (h : flat d = true) : flatV v = true := by
 cases d with
 | non => rw [g.non]; rfl
 | bl b => rw [g.bl]; rfl
 | int b => rw [g.int]; rfl
 | str b => rw [g.str]; rfl
 | _ => simp [flat] at h
theorem kO {d e : D} {v w : V} (g : Got X.K cl F H d v) (g' : Got X.K cl F H e w) (h : flat d = true) (h' : flat e = true) : eqV v w = eqD d e := by
 cases d with
 | non => rw [g.non]; cases e with
  | non => rw [g'.non]; simp only [eqV, eqD]
  | bl b => rw [g'.bl]; simp only [eqV, eqD]
  | int b => rw [g'.int]; simp only [eqV, eqD]
  | str b => rw [g'.str]; simp only [eqV, eqD]
  | _ => simp [flat] at h'
 | bl c => rw [g.bl]; cases e with
  | non => rw [g'.non]; simp only [eqV, eqD]
  | bl b => rw [g'.bl]; simp only [eqV, eqD]
  | int b => rw [g'.int]; simp only [eqV, eqD]
  | str b => rw [g'.str]; simp only [eqV, eqD]
  | _ => simp [flat] at h'
 | int c => rw [g.int]; cases e with
  | non => rw [g'.non]; simp only [eqV, eqD]
  | bl b => rw [g'.bl]; simp only [eqV, eqD]
  | int b => rw [g'.int]; simp only [eqV, eqD]
  | str b => rw [g'.str]; simp only [eqV, eqD]
  | _ => simp [flat] at h'
 | str c => rw [g.str]; cases e with
  | non => rw [g'.non]; simp only [eqV, eqD]
  | bl b => rw [g'.bl]; simp only [eqV, eqD]
  | int b => rw [g'.int]; simp only [eqV, eqD]
  | str b => rw [g'.str]; simp only [eqV, eqD]; exact eY c b
  | _ => simp [flat] at h'
 | _ => simp [flat] at h
theorem dW : ∀ {ds : List D} {vs : List V}, Reps X.K cl F H ds vs → ds.all flat = true → vs.all flatV = true
 | [], vs, r, _ => by rw [r.nil_inv]; rfl
 | d :: ds, vs, r, h => by
  obtain ⟨v, r', rfl, a1, a2⟩ := r.cons_inv
  rw [List.all_cons, Bool.and_eq_true] at h ⊢
  exact ⟨e9 (.inl a1) h.1, dW a2 h.2⟩
theorem kP (g : Got X.K cl F H p x) (h : flat p = true) : ∀ {ds : List D} {vs : List V}, Reps X.K cl F H ds vs → ds.all flat = true → inV x vs = inD p ds
 | [], vs, r, _ => by rw [r.nil_inv]; rfl
 | d :: ds, vs, r, hf => by
  obtain ⟨v, r', rfl, a1, a2⟩ := r.cons_inv
  rw [List.all_cons, Bool.and_eq_true] at hf
  have ih := kP g h a2 hf.2
  unfold inV inD at ih ⊢
  rw [List.any_cons, List.any_cons, ih, kO (.inl a1) g hf.1 h]
theorem ho_in (neg : Bool) (g1 : Got X.K cl F H p x) (g2 : Got X.K cl F H q y) (h : Post X.K cl YE m fr F H Q ((isin p q).bind fun b => .ok (.bl (if neg then !b else b)))) : rIn X.K neg x y H Q := by
 cases q with
 | lst es =>
  have h' : Post X.K cl YE m fr F H Q ((if (flat p && es.all flat) = true then R.ok (inD p es) else R.bad).bind fun b => .ok (.bl (if neg then !b else b))) := h
  by_cases hc : (flat p && es.all flat) = true
  ·rw [if_pos hc] at h'
   simp only [Bool.and_eq_true] at hc
   obtain ⟨a, vs, rfl, h1, r1⟩ := g2.lst
   exact ⟨a, vs, rfl, .inl (SqL.of h1), e9 g1 hc.1, dW r1 hc.2, by rw [kP g1 hc.1 r1 hc.2]; exact Post.bl h'⟩
  ·rw [if_neg hc] at h'; exact (show False from h').elim
 | tup es =>
  have h' : Post X.K cl YE m fr F H Q ((if (flat p && es.all flat) = true then R.ok (inD p es) else R.bad).bind fun b => .ok (.bl (if neg then !b else b))) := h
  by_cases hc : (flat p && es.all flat) = true
  ·rw [if_pos hc] at h'
   simp only [Bool.and_eq_true] at hc
   obtain ⟨a, vs, rfl, h1, r1⟩ := g2.tup
   exact ⟨a, vs, rfl, .inr h1, e9 g1 hc.1, dW r1 hc.2, by rw [kP g1 hc.1 r1 hc.2]; exact Post.bl h'⟩
  ·rw [if_neg hc] at h'; exact (show False from h').elim
 | _ => exact (show False from h).elim
theorem o8 {ds : List D} {vs : List V} (r : Reps X.K cl F H ds vs) {i : Int} {d : D} (h : atD ds i = some d) : ∃ v, atI vs i = some v ∧ Rep X.K cl F H d v := by
 unfold atD at h
 cases e : ixD ds.length i with
 | none => rw [e] at h; cases h
 | some j =>
  rw [e] at h
  obtain ⟨v, h1, h2⟩ := r.get (i := j) (d := d) h
  refine ⟨v, ?_, h2⟩
  show (ixN vs.length i).bind (fun j => vs[j]?) = some v
  rw [r.length]
  have e' : ixN ds.length i = some j := e
  rw [e']; exact h1
theorem ho_at (g1 : Got X.K cl F H p x) (g2 : Got X.K cl F H q y) (h : Post X.K cl YE m false F H Q (op2 .at p q)) : rIxL X.K x y H Q ∨ rIxT X.K x y H Q := by
 cases p <;> cases q <;> first | exact (show False from h).elim | skip
 ·rename_i ds i
  have h' : Post X.K cl YE m false F H Q (ofO (atD ds i)) := h
  cases e : atD ds i with
  | none => rw [e] at h'; exact (show False from h').elim
  | some d =>
   rw [e] at h'
   obtain ⟨a, vs, rfl, h1, r1⟩ := g1.tup
   obtain ⟨v, e1, e2⟩ := o8 r1 e
   exact .inr ⟨a, vs, i, v, rfl, g2.int, h1, e1, Post.hereR h' e2 (by simp)⟩
 ·rename_i ds i
  have h' : Post X.K cl YE m false F H Q (ofO (atD ds i)) := h
  cases e : atD ds i with
  | none => rw [e] at h'; exact (show False from h').elim
  | some d =>
   rw [e] at h'
   obtain ⟨a, vs, rfl, h1, r1⟩ := g1.lst
   obtain ⟨v, e1, e2⟩ := o8 r1 e
   exact .inl ⟨a, vs, i, v, rfl, g2.int, SqL.of h1, e1, Post.hereR h' e2 (by simp)⟩
 ·rename_i ns i
  have h' : Post X.K cl YE m false F H Q (ofO ((atD ns i).map .int)) := h
  cases e : atD ns i with
  | none => rw [e] at h'; exact (show False from h').elim
  | some d =>
   rw [e] at h'
   obtain ⟨a, rfl, h1⟩ := g1.scr
   refine .inl ⟨a, _, i, .int d, rfl, g2.int, h1.sqL, ?_, Post.int h'⟩
   unfold atD at e
   show (ixN (ns.map V.int).length i).bind (fun j => (ns.map V.int)[j]?) = _
   rw [List.length_map]
   cases e2 : ixD ns.length i with
   | none => rw [e2] at e; cases e
   | some j =>
    rw [e2] at e
    have e3 : ixN ns.length i = some j := e2
    rw [e3]
    show (ns.map V.int)[j]? = _
    rw [List.getElem?_map]
    have e4 : ns[j]? = some d := e
    rw [e4]; rfl
end
end L2.Snd
namespace L2.Snd
open PySem PySem.Spec PyProof.Rows L2 Py
def lift1 (o : D → R D) : List D → R D
 | [x] => o x
 | _ => .bad
theorem Paired.one {α β : Type} {P : α → β → Prop} {a : α} {l : List β} (h : Paired P [a] l) : ∃ b, l = [b] ∧ P a b := by
 cases h with | cons h r => cases r; exact ⟨_, rfl, h⟩
section
variable {X : Cx} {cl : Nat → Addr} {XE : Nat → St → Hp → Prop} {YE : Nat → Hp → Prop} {Φ : Nat → List D → R D} {G : List D} {m fr : Bool}
theorem dX {ex : Ex} {exs : List Ex} {o : List D → R D} {r : List V → Hp → VK → Prop} {id : String} {x : Str} {p pos : Pos} {e : Expr} {es : List Expr} (hev : ∀ δ, ev Φ G m ex δ = (evs Φ G true exs δ).bind o)
  (hc : CallR X (.builtin id) r) (hg : Gl X x) (hm : X.mg x = none) (hv : bootBuiltins x = some (.builtin id)) (hn : x ≠ "__name__") (hdb : (x == ("__debug__" : Str)) = false)
  (he : starEach (e :: es) X.env = (false, eval e X.env) :: starEach es X.env) (hpl : (backTo pos (starEach es X.env)).any (·.1) = false) (ia : OkA X cl XE Φ G true exs (e :: es))
  (ho : ∀ (YE : Nat → Hp → Prop) F H vs ds Q, Trk F H → Paired (Got X.K cl F H) ds vs → Post X.K cl YE m (frsh ex) F H Q (o ds) → r vs H Q) : OkE X cl XE Φ G m ex (.Call (.Name x p) (e :: es) [] pos) := by
 obtain ⟨ta, pa, ia⟩ := ia
 refine ⟨_, dM hc hg hm hv pa hn hdb he hpl, fun F σ δ H Q S h => ?_⟩
 rw [hev] at h
 refine ia F σ δ H _ S (Meet.mono (Meet.bind h) (fun ds _ hd F1 vs H1 u1 g1 => ?_) fun c z => z)
 rw [if_pos rfl] at g1
 exact ho _ F1 H1 vs ds Q (S.up u1).trk g1 (Post.up hd u1)
theorem g7 {ex : Ex} {exs : List Ex} {o : List D → R D} {r : List V → Hp → VK → Prop} {id : String} {x : Str} {p pos : Pos} {e : Expr} {es : List Expr} (hev : ∀ δ, ev Φ G m ex δ = (evs Φ G true exs δ).bind o)
  (hc : CallR X (.type id) r) (hg : Gl X x) (hm : X.mg x = none) (hv : bootBuiltins x = some (.type id)) (hn : x ≠ "__name__") (hdb : (x == ("__debug__" : Str)) = false)
  (he : starEach (e :: es) X.env = (false, eval e X.env) :: starEach es X.env) (hpl : (backTo pos (starEach es X.env)).any (·.1) = false) (ia : OkA X cl XE Φ G true exs (e :: es))
  (ho : ∀ (YE : Nat → Hp → Prop) F H vs ds Q, Trk F H → Paired (Got X.K cl F H) ds vs → Post X.K cl YE m (frsh ex) F H Q (o ds) → r vs H Q) : OkE X cl XE Φ G m ex (.Call (.Name x p) (e :: es) [] pos) := by
 obtain ⟨ta, pa, ia⟩ := ia
 refine ⟨_, d9 hc hg hm hv pa hn hdb he hpl, fun F σ δ H Q S h => ?_⟩
 rw [hev] at h
 refine ia F σ δ H _ S (Meet.mono (Meet.bind h) (fun ds _ hd F1 vs H1 u1 g1 => ?_) fun c z => z)
 rw [if_pos rfl] at g1
 exact ho _ F1 H1 vs ds Q (S.up u1).trk g1 (Post.up hd u1)
theorem ev1 {o : Op1} {a : Ex} (δ : Sto) : ev Φ G m (.op1 o a) δ = (evs Φ G true [a] δ).bind (lift1 (op1 o)) := by
 simp only [ev, evs]
 cases ev Φ G true a δ <;> rfl
variable {F : Addr → Prop} {H : Hp} {Q : VK} {x y : V} {p q : D}
theorem ho_len {vs : List V} {ds : List D} (g : Paired (Got X.K cl F H) ds vs) (h : Post X.K cl YE m fr F H Q (lift1 (op1 .len) ds)) :
  ∃ p ys, vs = [.ref p] ∧ (SqL X.K H p ys ∨ SqT X.K H p ys) ∧ Q (.int ys.length) H := by
 match ds, g, h with
 | [], _, h => exact (show False from h).elim
 | _ :: _ :: _, _, h => exact (show False from h).elim
 | [d], g, h =>
  obtain ⟨v, rfl, gv⟩ := Paired.one g
  have h : Post X.K cl YE m fr F H Q (op1 .len d) := h
  cases d <;> first | exact (show False from h).elim | skip
  ·rename_i ds
   obtain ⟨a, ws, rfl, h1, r1⟩ := gv.tup
   exact ⟨a, ws, rfl, .inr h1, by rw [r1.length]; exact Post.int h⟩
  ·rename_i ds
   obtain ⟨a, ws, rfl, h1, r1⟩ := gv.lst
   exact ⟨a, ws, rfl, .inl (SqL.of h1), by rw [r1.length]; exact Post.int h⟩
  ·rename_i ns
   obtain ⟨a, rfl, h1⟩ := gv.scr
   exact ⟨a, _, rfl, .inl h1.sqL, by rw [List.length_map]; exact Post.int h⟩
theorem ho_list (t : Trk F H) {vs : List V} {ds : List D} (g : Paired (Got X.K cl F H) ds vs) (h : Post X.K cl YE m true F H Q (lift1 (op1 .list) ds)) :
  ∃ p ys, vs = [.ref p] ∧ (SqL X.K H p ys ∨ SqT X.K H p ys) ∧ ∀ l, H l = none → Q (.ref l) (L2.upd H l (.lst ys)) := by
 match ds, g, h with
 | [], _, h => exact (show False from h).elim
 | _ :: _ :: _, _, h => exact (show False from h).elim
 | [d], g, h =>
  obtain ⟨v, rfl, gv⟩ := Paired.one g
  have h : Post X.K cl YE m true F H Q (op1 .list d) := h
  cases d <;> first | exact (show False from h).elim | skip
  ·rename_i ds
   obtain ⟨a, ws, rfl, h1, r1⟩ := gv.tup
   exact ⟨a, ws, rfl, .inr h1, fun l hl => Post.newl h r1 (t.fresh hl) hl⟩
  ·rename_i ds
   obtain ⟨a, ws, rfl, h1, r1⟩ := gv.lst
   exact ⟨a, ws, rfl, .inl (SqL.of h1), fun l hl => Post.newl h r1 (t.fresh hl) hl⟩
theorem o9 {vs : List V} {ds : List D} (g : Paired (Got X.K cl F H) ds vs) (h : Post X.K cl YE m false F H Q (lift1 (op1 .tuple) ds)) :
  ∃ p ys, vs = [.ref p] ∧ ((SqL X.K H p ys ∧ ∀ l, H l = none → Q (.ref l) (L2.upd H l (.tup ys))) ∨ (SqT X.K H p ys ∧ Q (.ref p) H)) := by
 match ds, g, h with
 | [], _, h => exact (show False from h).elim
 | _ :: _ :: _, _, h => exact (show False from h).elim
 | [d], g, h =>
  obtain ⟨v, rfl, gv⟩ := Paired.one g
  have h : Post X.K cl YE m false F H Q (op1 .tuple d) := h
  cases d <;> first | exact (show False from h).elim | skip
  ·rename_i ds
   obtain ⟨a, ws, rfl, h1, r1⟩ := gv.tup
   exact ⟨a, ws, rfl, .inr ⟨h1, Post.hereR h (by simp only [Rep]; exact ⟨a, ws, rfl, h1, r1⟩) (by simp)⟩⟩
  ·rename_i ds
   obtain ⟨a, ws, rfl, h1, r1⟩ := gv.lst
   exact ⟨a, ws, rfl, .inl ⟨SqL.of h1, fun l hl => Post.newt h r1 hl⟩⟩
theorem ho_neg (g : Got X.K cl F H p x) (h : Post X.K cl YE m fr F H Q (op1 .neg p)) : rU (fun i => .int (-i)) x H Q := by
 cases p <;> first | exact (show False from h).elim | skip
 exact ⟨_, g.int, Post.int h⟩
theorem ho_isN (g : Got X.K cl F H p x) (h : Post X.K cl YE m fr F H Q (op1 .isNone p)) : Q (.bl (decide (x = .non))) H := by
 cases p with
 | non => rw [g.non]; exact Post.bl h
 | bl b => rw [g.bl]; exact Post.bl h
 | int b => rw [g.int]; exact Post.bl h
 | str b => rw [g.str]; exact Post.bl h
 | tup b =>
  obtain ⟨a, _, rfl, _⟩ := g.tup
  have h' : Post X.K cl YE m fr F H Q (if pln 1000 (.tup b) = true then .ok (.bl false) else .bad) := h
  by_cases hc : pln 1000 (.tup b) = true
  ·rw [if_pos hc] at h'; exact Post.bl h'
  ·rw [if_neg hc] at h'; exact h'.no.elim
 | lst b =>
  obtain ⟨a, _, rfl, _⟩ := g.lst
  have h' : Post X.K cl YE m fr F H Q (if pln 1000 (.lst b) = true then .ok (.bl false) else .bad) := h
  by_cases hc : pln 1000 (.lst b) = true
  ·rw [if_pos hc] at h'; exact Post.bl h'
  ·rw [if_neg hc] at h'; exact h'.no.elim
 | dic a b => exact (show False from h).elim
 | exn a => exact (show False from h).elim
 | scr a => exact (show False from h).elim
theorem ho_isNN (g : Got X.K cl F H p x) (h : Post X.K cl YE m fr F H Q (op1 .isNotNone p)) : Q (.bl (!decide (x = .non))) H := by
 cases p with
 | non => rw [g.non]; exact Post.bl h
 | bl b => rw [g.bl]; exact Post.bl h
 | int b => rw [g.int]; exact Post.bl h
 | str b => rw [g.str]; exact Post.bl h
 | tup b =>
  obtain ⟨a, _, rfl, _⟩ := g.tup
  have h' : Post X.K cl YE m fr F H Q (if pln 1000 (.tup b) = true then .ok (.bl true) else .bad) := h
  by_cases hc : pln 1000 (.tup b) = true
  ·rw [if_pos hc] at h'; exact Post.bl h'
  ·rw [if_neg hc] at h'; exact h'.no.elim
 | lst b =>
  obtain ⟨a, _, rfl, _⟩ := g.lst
  have h' : Post X.K cl YE m fr F H Q (if pln 1000 (.lst b) = true then .ok (.bl true) else .bad) := h
  by_cases hc : pln 1000 (.lst b) = true
  ·rw [if_pos hc] at h'; exact Post.bl h'
  ·rw [if_neg hc] at h'; exact h'.no.elim
 | dic a b => exact (show False from h).elim
 | exn a => exact (show False from h).elim
 | scr a => exact (show False from h).elim
theorem Post.asB {f : Bool → R D} (g : Got X.K cl F H p x) (h : Post X.K cl YE m fr F H Q ((asB p).bind f)) : ∃ c, x = .bl c ∧ Post X.K cl YE m fr F H Q (f c) := by
 cases p with
 | bl c => exact ⟨c, g.bl, h⟩
 | _ => exact (show False from h).elim
theorem ok_not {ea : Ex} {a : Expr} {pos : Pos} (ia : OkE X cl XE Φ G true ea a) : OkE X cl XE Φ G m (.not ea) (.UnaryOp .Not a pos) := by
 obtain ⟨ta, pa, ia⟩ := ia
 refine ⟨_, pe_not pa, fun F σ δ H Q S h => ?_⟩
 simp only [ev] at h
 refine ia F σ δ H _ S (Meet.mono (Meet.bind h) (fun p _ hp F1 x H1 u1 g1 => ?_) fun c z => z)
 obtain ⟨c, e, hc⟩ := Post.asB g1.got (Post.up hp u1)
 exact ⟨c, e, Post.bl hc⟩
theorem pA {ex : Ex} {op : BoolOp} {a : Expr} {pos : Pos} (ia : OkE X cl XE Φ G m ex a) : OkE X cl XE Φ G m ex (.BoolOp op [a] pos) := by
 obtain ⟨ta, pa, ia⟩ := ia
 exact ⟨_, pe_one pa, ia⟩
theorem Post.weak {Q : VK} {r : R D} (h : Post X.K cl YE m false F H Q r) : Post X.K cl YE m fr F H Q r := by
 refine Meet.mono h (fun d _ q F' v H' u g => ?_) fun c z => z
 unfold Gives at g
 by_cases hm : m = true
 ·rw [if_pos hm] at g
  exact q F' v H' u (by unfold Gives; rw [if_pos hm]; exact g)
 ·rw [if_neg hm] at g
  obtain ⟨F2, u2, _, rp⟩ := g.keep u
  exact q F2 v H' u2 (by unfold Gives; rw [if_neg hm]; exact .of_rep rp (by simp))
theorem Post.modes {Q : VK} {r : R D} (h : Post X.K cl YE m fr F H Q r) : Post X.K cl YE false fr F H Q r :=
 Meet.mono h (fun d _ q F' v H' u g => q F' v H' u (Res.gives (by unfold Gives at g; rw [if_neg Bool.false_ne_true] at g; exact g))) fun c z => z
theorem pB {ea eb : Ex} {a b : Expr} {rest : List Expr} {pos : Pos} (ia : OkE X cl XE Φ G true ea a) (ib : OkE X cl XE Φ G false eb (.BoolOp .And (b :: rest) pos)) : OkE X cl XE Φ G m (.and ea eb) (.BoolOp .And (a :: b :: rest) pos) := by
 obtain ⟨ta, pa, ia⟩ := ia
 obtain ⟨tb, pb, ib⟩ := ib
 refine ⟨_, pe_and pa pb, fun F σ δ H Q S h => ?_⟩
 simp only [ev] at h
 refine ia F σ δ H _ S (Meet.mono (Meet.bind h) (fun p _ hp F1 x H1 u1 g1 => ?_) fun c z => z)
 obtain ⟨c, e, hc⟩ := Post.asB g1.got (Post.up hp u1)
 refine ⟨c, e, ?_⟩
 cases c with
 | true =>
  rw [if_pos rfl]
  exact ib F1 σ δ H1 Q (S.up u1) (Post.modes hc).weak
 | false =>
  rw [if_neg Bool.false_ne_true]
  exact Post.bl hc
theorem ok_tup {exs : List Ex} {es : List Expr} {k : Nat} {pos : Pos} (hl : exs.length ≤ LIM) (ia : OkA X cl XE Φ G false exs es) : OkE X cl XE Φ G m (.tup exs) (.Tuple es k pos) := by
 obtain ⟨ta, pa, ia⟩ := ia
 refine ⟨_, pe_tup pa, fun F σ δ H Q S h => ?_⟩
 simp only [ev] at h
 refine ia F σ δ H _ S (Meet.mono (Meet.bind h) (fun ds hds hp F1 vs H1 u1 g1 => ?_) fun c z => z)
 rw [if_neg Bool.false_ne_true] at g1
 have hlen : ds.length = exs.length := by
  have : ∀ (es : List Ex) (ds : List D), evs Φ G false es δ = .ok ds → ds.length = es.length := by
   intro es
   induction es with
   | nil => intro ds h; simp only [evs] at h; cases h; rfl
   | cons e es ih =>
    intro ds h
    simp only [evs] at h
    cases q : ev Φ G false e δ with
    | ok x =>
     rw [q] at h
     cases q2 : evs Φ G false es δ with
     | ok xs => rw [q2] at h; cases h; rw [List.length_cons, List.length_cons, ih xs q2]
     | exc c => rw [q2] at h; cases h
     | bad => rw [q2] at h; cases h
    | exc c => rw [q] at h; cases h
    | bad => rw [q] at h; cases h
  exact this exs ds hds
 exact ⟨by rw [g1.length, hlen]; exact iN hl, fun l hl' => Post.newt (Post.up hp u1) g1 hl'⟩
theorem ok_lst {exs : List Ex} {es : List Expr} {pos : Pos} (hl : exs.length ≤ LIM) (ia : OkA X cl XE Φ G false exs es) : OkE X cl XE Φ G m (.lst exs) (.List es pos) := by
 obtain ⟨ta, pa, ia⟩ := ia
 refine ⟨_, oN pa, fun F σ δ H Q S h => ?_⟩
 simp only [ev] at h
 refine ia F σ δ H _ S (Meet.mono (Meet.bind h) (fun ds hds hp F1 vs H1 u1 g1 => ?_) fun c z => z)
 rw [if_neg Bool.false_ne_true] at g1
 have hlen : ds.length = exs.length := by
  have : ∀ (es : List Ex) (ds : List D), evs Φ G false es δ = .ok ds → ds.length = es.length := by
   intro es
   induction es with
   | nil => intro ds h; simp only [evs] at h; cases h; rfl
   | cons e es ih =>
    intro ds h
    simp only [evs] at h
    cases q : ev Φ G false e δ with
    | ok x =>
     rw [q] at h
     cases q2 : evs Φ G false es δ with
     | ok xs => rw [q2] at h; cases h; rw [List.length_cons, List.length_cons, ih xs q2]
     | exc c => rw [q2] at h; cases h
     | bad => rw [q2] at h; cases h
    | exc c => rw [q] at h; cases h
    | bad => rw [q] at h; cases h
  exact this exs ds hds
 exact ⟨by rw [g1.length, hlen]; exact iN hl, fun l hl' => Post.newl (Post.up hp u1) g1 ((S.up u1).trk.fresh hl') hl'⟩
end
end L2.Snd
namespace L2.Snd
open PySem PySem.Spec PyProof.Rows L2 Py
section
variable {X : Cx} {cl : Nat → Addr} {XE : Nat → St → Hp → Prop} {YE : Nat → Hp → Prop} {Φ : Nat → List D → R D} {G : List D} {m fr : Bool}
def OkP (X : Cx) (cl : Nat → Addr) (XE : Nat → St → Hp → Prop) (Φ : Nat → List D → R D) (G : List D) (ex : Option Ex) (e : Option Expr) : Prop := ∃ t, PO X e t ∧ ∀ F σ δ H Q, Sees X.K cl F H σ δ →
 Meet (evP Φ G ex δ) (fun o => ∀ F' H', Up F H F' H' → Q o H') (fun c => ∀ F' H', Up F H F' H' → XE c σ H') → t σ H Q
theorem fO : OkP X cl XE Φ G none none := ⟨_, po_none, fun F σ δ H Q S h => by simp only [evP] at h; exact h F H (Up.refl F H)⟩
theorem b5 {ex : Ex} {e : Expr} (ia : OkE X cl XE Φ G true ex e) : OkP X cl XE Φ G (some ex) (some e) := by
 obtain ⟨ta, pa, ia⟩ := ia
 refine ⟨_, po_some pa, fun F σ δ H Q S h => ?_⟩
 simp only [evP] at h
 refine ia F σ δ H _ S (Meet.mono (Meet.bind h) (fun p _ hp F1 x H1 u1 g1 => ?_) fun c z => z)
 cases p with
 | int i => exact ⟨i, g1.got.int, hp F1 H1 u1⟩
 | _ => exact (show False from hp).elim
variable {F : Addr → Prop} {H : Hp} {Q : VK} {x y : V} {p q : D}
theorem iO (n d : Nat) (o : Option Int) : HT.sIx n d o = Py.sIx n d o := by cases o <;> rfl
theorem pC {ds : List D} {vs : List V} (r : Reps X.K cl F H ds vs) (l h : Option Int) : Reps X.K cl F H (cut ds l h) (cutV vs l h) := by
 unfold cut cutV
 rw [r.length, iO, iO]
 exact (r.drop _).take _
theorem cut_all {ds : List D} {l h : Option Int} (e : Py.sIx ds.length 0 l = 0 ∧ Py.sIx ds.length ds.length h = ds.length) : cut ds l h = ds := by
 unfold cut
 rw [e.1, e.2]; simp
theorem ho_slc (t : Trk F H) {l h : Option Int} (g : Got X.K cl F H p x) (hp : Post X.K cl YE m true F H Q (slc p l h)) : rSlL X.K x l h H Q ∨ rSlT X.K x l h H Q ∨ rSlTW X.K x l h H Q := by
 cases p with
 | lst ds =>
  obtain ⟨a, vs, rfl, h1, r1⟩ := g.lst
  exact .inl ⟨a, vs, rfl, SqL.of h1, fun p' hp' => Post.newl hp (pC r1 l h) (t.fresh hp') hp'⟩
 | tup ds =>
  obtain ⟨a, vs, rfl, h1, r1⟩ := g.tup
  by_cases hw : HT.sIx vs.length 0 l = 0 ∧ HT.sIx vs.length vs.length h = vs.length
  ·refine .inr (.inr ⟨a, vs, rfl, h1, hw, Post.hereR hp ?_ (by simp [isOwn])⟩)
   have hw' : Py.sIx ds.length 0 l = 0 ∧ Py.sIx ds.length ds.length h = ds.length := by
    rw [r1.length, iO, iO] at hw; exact hw
   rw [cut_all hw']
   simp only [Rep]
   exact ⟨a, vs, rfl, h1, r1⟩
  ·exact .inr (.inl ⟨a, vs, rfl, h1, hw, fun p' hp' => Post.newt hp (pC r1 l h) hp'⟩)
 | _ => exact (show False from hp).elim
theorem fP {ea : Ex} {a : Expr} {lo hi : Option Ex} {le he : Option Expr} {p2 pos : Pos} (ia : OkE X cl XE Φ G true ea a) (il : OkP X cl XE Φ G lo le) (ih : OkP X cl XE Φ G hi he) : OkE X cl XE Φ G m (.slc ea lo hi) (.Subscript a (.Slice le he none p2) pos) := by
 obtain ⟨ta, pa, ia⟩ := ia
 obtain ⟨tl, pl, il⟩ := il
 obtain ⟨th, ph, ih⟩ := ih
 refine ⟨_, oR (sl_list.or (sl_tup.or sl_tupW)) pa pl ph, fun F σ δ H Q S h => ?_⟩
 simp only [ev] at h
 refine ia F σ δ H _ S (Meet.mono (Meet.bind h) (fun p _ hp F1 x H1 u1 g1 => ?_) fun c z => z)
 have hp1 : Post X.K cl (fun c => XE c σ) m true F1 H1 Q ((evP Φ G lo δ).bind fun l => (evP Φ G hi δ).bind fun h => slc p l h) := Post.up hp u1
 refine il F1 σ δ H1 _ (S.up u1) (Meet.mono (Meet.bind hp1) (fun l _ hl F2 H2 u2 => ?_) fun c z => z)
 have hp2 : Post X.K cl (fun c => XE c σ) m true F2 H2 Q ((evP Φ G hi δ).bind fun h => slc p l h) := Post.up hl u2
 refine ih F2 σ δ H2 _ ((S.up u1).up u2) (Meet.mono (Meet.bind hp2) (fun h' _ hh F3 H3 u3 => ?_) fun c z => z)
 exact ho_slc (((S.up u1).up u2).up u3).trk ((g1.got.up u2).up u3) (Post.up hh u3)
theorem rep_get {ds : List D} {vs : List V} (r : Reps X.K cl F H ds vs) {i : Nat} {v : V} (h : vs[i]? = some v) : ∃ d, ds[i]? = some d ∧ Rep X.K cl F H d v := by
 have hl := r.length
 have hi : i < ds.length := by
  by_cases hc : i < vs.length
  ·omega
  ·rw [List.getElem?_eq_none (by omega)] at h; cases h
 obtain ⟨v', h1, h2⟩ := r.get (i := i) (d := ds[i]) (by simp [hi])
 rw [h] at h1; cases h1
 exact ⟨ds[i], by simp [hi], h2⟩
theorem jL (e : D) : ∀ (ds : List D) (j : Nat), idxD e ds = some j → ∃ z, ds[j]? = some z ∧ eqD z e = true ∧ ∀ (k : Nat) z', k < j → ds[k]? = some z' → eqD z' e = false
 | [], j, h => by simp [idxD] at h
 | d :: ds, j, h => by
  unfold idxD at h
  by_cases hc : eqD d e = true
  ·rw [if_pos hc] at h
   cases h
   exact ⟨d, by simp, hc, fun k z' hk => absurd hk (Nat.not_lt_zero k)⟩
  ·rw [if_neg hc] at h
   cases q : idxD e ds with
   | none => rw [q] at h; cases h
   | some i =>
    rw [q] at h
    cases h
    obtain ⟨z, h1, h2, h3⟩ := jL e ds i q
    refine ⟨z, by simpa using h1, h2, fun k z' hk hz => ?_⟩
    cases k with
    | zero => simp at hz; subst hz; simpa using hc
    | succ k => exact h3 k z' (by have : k + 1 < i + 1 := hk; omega) (by simpa using hz)
theorem pD (g1 : Got X.K cl F H p x) (g2 : Got X.K cl F H q y) (h : Post X.K cl YE m fr F H Q (op2 .index p q)) : rIndex x [y] H Q := by
 cases p <;> first | exact (show False from h).elim | skip
 rename_i ds
 have h' : Post X.K cl YE m fr F H Q (if (flat q && ds.all flat) = true then ofO ((idxD q ds).map fun n => .int n) else .bad) := h
 by_cases hc : (flat q && ds.all flat) = true
 ·rw [if_pos hc] at h'
  simp only [Bool.and_eq_true] at hc
  obtain ⟨a, vs, rfl, h1, r1⟩ := g1.lst
  cases e : idxD q ds with
  | none => rw [e] at h'; exact (show False from h').elim
  | some j =>
   rw [e] at h'
   obtain ⟨z, e1, e2, e3⟩ := jL q ds j e
   obtain ⟨v, f1, f2⟩ := r1.get e1
   have fl : ∀ (k : Nat) d, ds[k]? = some d → flat d = true := fun k d hk => List.all_eq_true.mp hc.2 d (List.mem_of_getElem? hk)
   refine ⟨a, vs, y, j, v, rfl, rfl, h1, e9 g2 hc.1, dW r1 hc.2, f1, by rw [kO (.inl f2) g2 (fl j z e1) hc.1]; exact e2, fun k z' hk hz => ?_, Post.int h'⟩
   obtain ⟨d, d1, d2⟩ := rep_get r1 hz
   rw [kO (.inl d2) g2 (fl k d d1) hc.1]
   exact e3 k d hk d1
 ·rw [if_neg hc] at h'; exact h'.no.elim
theorem ok_meth {o : Op2} {name : Str} {id : String} {r : V → List V → Hp → VK → Prop} {ea eb : Ex} {a b : Expr} {apos cpos : Pos} (slot : Slot "list" name id) (hty : typeOf (.builtin id) = pure (.type "method_descriptor")) (hm : MtR X id r)
  (ia : OkE X cl XE Φ G true ea a) (ib : OkE X cl XE Φ G true eb b) (hbase : attributeBase a name X.env (eval a X.env) = eval a X.env) (hline : (apos.endLine == cpos.line) = true)
  (hs : starEach [b] X.env = [(false, eval b X.env)])
  (hl : ∀ p q, (∃ ds, p = .lst ds) ∨ op2 o p q = .bad) (hx : ∀ δ c, ev Φ G true eb δ ≠ .exc c)
  (ho : ∀ (YE : Nat → Hp → Prop) F H x y p q Q, Got X.K cl F H p x → Got X.K cl F H q y → Post X.K cl YE m (frsh (.op2 o ea eb)) F H Q (op2 o p q) → r x [y] H Q) : OkE X cl XE Φ G m (.op2 o ea eb) (.Call (.Attribute a name apos) [b] [] cpos) := by
 obtain ⟨ta, pa, ia⟩ := ia
 obtain ⟨tb, pb, ib⟩ := ib
 have hs' : starEach (b :: []) X.env = (false, eval b X.env) :: starEach [] X.env := hs
 refine ⟨_, pe_bm PySem.F.plainAttrs_list slot hty hm pa (pa_cons pb pa_nil hs') hbase (by rw [hs]; rfl) hline hs' rfl, fun F σ δ H Q S h => ?_⟩
 simp only [ev] at h
 refine ia F σ δ H _ S (Meet.mono (Meet.bind h) (fun p _ hp F1 x H1 u1 g1 => ?_) fun c z => z)
 have hp1 : Post X.K cl (fun c => XE c σ) m (frsh (.op2 o ea eb)) F1 H1 Q ((ev Φ G true eb δ).bind fun y => op2 o p y) := Post.up hp u1
 refine ⟨?_, ?_⟩
 ·rcases hl p .non with ⟨ds, rfl⟩ | _
  ·obtain ⟨l, vs, rfl, h1, r1⟩ := g1.got.lst
   exact .inl ⟨rfl, vs, SqL.of h1⟩
  ·by_cases hc : ∃ ds, p = .lst ds
   ·obtain ⟨ds, rfl⟩ := hc
    obtain ⟨l, vs, rfl, h1, r1⟩ := g1.got.lst
    exact .inl ⟨rfl, vs, SqL.of h1⟩
   ·exfalso
    cases e : ev Φ G true eb δ with
    | ok y =>
     rw [e] at hp1
     rcases hl p y with z | z
     ·exact hc z
     ·have : Post X.K cl (fun c => XE c σ) m (frsh (.op2 o ea eb)) F1 H1 Q (op2 o p y) := hp1
      rw [z] at this; exact this
    | exc c =>
     exact hx δ c e
    | bad => rw [e] at hp1; exact hp1
 ·show tCons tb tNil σ H1 _
  refine ib F1 σ δ H1 _ (S.up u1) (Meet.mono (Meet.bind hp1) (fun q _ hq F2 y H2 u2 g2 => ?_) fun c z => z)
  exact ho _ F2 H2 x y p q Q (g1.got.up u2) g2.got (Post.up hq u2)
theorem boot_isinstance : bootBuiltins "isinstance" = some (.builtin "isinstance") := by first | exact PySem.boot_isinstance | rfl | decide +kernel
theorem boot_int : bootBuiltins "int" = some (.type "int") := by first | exact PySem.boot_int | rfl | decide +kernel
theorem boot_bool : bootBuiltins "bool" = some (.type "bool") := by first | exact PySem.boot_bool | rfl | decide +kernel
theorem boot_tuple : bootBuiltins "tuple" = some (.type "tuple") := by first | exact PySem.boot_tuple | rfl | decide +kernel
theorem boot_list : bootBuiltins "list" = some (.type "list") := by first | exact PySem.boot_list | rfl | decide +kernel
theorem boot_max : bootBuiltins "max" = some (.builtin "max") := by first | exact PySem.boot_max | rfl | decide +kernel
theorem boot_min : bootBuiltins "min" = some (.builtin "min") := by first | exact PySem.boot_min | rfl | decide +kernel
def tyName : D → String
 | .non => "NoneType" | .bl _ => "bool" | .int _ => "int" | .str _ => "str" | .tup _ => "tuple" | .lst _ => "list" | _ => ""
theorem isi_run {pins : List (Addr × Obj)} {σ : St} {s : Shared} {A : Around} {E : Value → Shared → Prop} {QQ : Value → Shared → Prop} {u c : Value} {b : Bool} (I : Inv X pins σ H s) (g : Got X.K cl F H p x) (hp : pln 1000 p = true) (rx : RelV x u)
  (e : PySem.W.kitOne X.K (.type (tyName p)) c = some b) (h : ∀ tk, QQ (.bool b) { s with toks := tk }) : wpAny (model X.prog X.w) A (call (.builtin "isinstance") [u, c]) QQ E s := by
 cases p with
 | non => rw [g.non] at rx; cases rx; exact PySem.W.kia_one PySem.W.kitx_none I.kIn True.intro e (fun z => nomatch z) h
 | bl y => rw [g.bl] at rx; cases rx; exact PySem.W.kia_one PySem.W.kitx_bool I.kIn True.intro e (fun z => nomatch z) h
 | int i => rw [g.int] at rx; obtain ⟨t, rfl⟩ := rx; exact PySem.W.kia_one PySem.W.kitx_int I.kIn True.intro e (fun z => nomatch z) h
 | str y => rw [g.str] at rx; obtain ⟨t, rfl⟩ := rx; exact PySem.W.kia_one PySem.W.kitx_str I.kIn True.intro e (fun z => nomatch z) h
 | tup ds =>
  obtain ⟨a, vs, rfl, h1, r1⟩ := g.tup
  cases (show u = Value.ref a from rx)
  obtain ⟨its, _, ⟨o, ho, hc, _⟩, _⟩ := I.tuple h1
  exact PySem.W.kia_one PySem.W.kitx_tuple I.kIn ⟨o, ho, hc⟩ e (fun z => nomatch z) h
 | lst ds =>
  obtain ⟨a, vs, rfl, h1, r1⟩ := g.lst
  cases (show u = Value.ref a from rx)
  obtain ⟨_, _, n, _, h2⟩ := I.hok a _ h1
  exact PySem.W.kia_one PySem.W.kitx_list I.kIn ⟨_, h2, rfl⟩ e (fun z => nomatch z) h
 | _ => simp [pln] at hp
def rIsi (K : PySem.W.Frag) (cl : Nat → Addr) (T : String) : List V → Hp → VK → Prop := fun xs H Q => ∃ F d x b, xs = [x, .ty T] ∧ Got K cl F H d x ∧ pln 1000 d = true ∧ PySem.W.kitOne K (.type (tyName d)) (.type T) = some b ∧ Q (.bl b) H
theorem pE (T : String) : CallR X (.builtin "isinstance") (rIsi X.K cl T) := by
 intro pins s σ H xs us Q I r h
 obtain ⟨F, d, x, b, rfl, g, hp, e, q⟩ := h
 obtain ⟨u, w, rfl, ru, rw'⟩ := vals2 r
 cases (show w = Value.type T from rw')
 exact isi_run I g hp ru e fun tk => ⟨.bl b, H, I.tok tk, rfl, q⟩
def isTy (T : String) (d : D) : Bool := match d with
 | .bl _ => T == "bool" || T == "int"
 | d => T == tyName d
theorem kit_ty (K : PySem.W.Frag) (T : String) (hT : T = "int" ∨ T = "bool" ∨ T = "tuple" ∨ T = "list" ∨ T = "str") (d : D) (hp : pln 1000 d = true) : PySem.W.kitOne K (.type (tyName d)) (.type T) = some (isTy T d) := by
 rcases hT with rfl | rfl | rfl | rfl | rfl <;> cases d <;> first | (simp [pln] at hp; done) | rfl | decide +kernel
theorem kQ {o : Op1} {T : String} {Tn : Str} {ea : Ex} {a : Expr} {p1 p2 pos : Pos} (hT : T = "int" ∨ T = "bool" ∨ T = "tuple" ∨ T = "list" ∨ T = "str")
  (hg : Gl X "isinstance") (hm : X.mg "isinstance" = none) (hg2 : Gl X Tn) (hm2 : X.mg Tn = none) (hv : bootBuiltins Tn = some (.type T)) (hn : Tn ≠ "__name__") (hdb : (Tn == ("__debug__" : Str)) = false) (ia : OkE X cl XE Φ G true ea a)
  (hs : starEach [a, .Name Tn p2] X.env = [(false, eval a X.env), (false, eval (.Name Tn p2) X.env)]) (hfr : frsh (.op1 o ea) = false)
  (ho : ∀ d, (op1 o d = .ok (.bl (isTy T d)) ∧ pln 1000 d = true) ∨ op1 o d = .bad) : OkE X cl XE Φ G m (.op1 o ea) (.Call (.Name "isinstance" p1) [a, .Name Tn p2] [] pos) := by
 obtain ⟨ta, pa, ia⟩ := ia
 have pt : PE X (.Name Tn p2) (tC (.ty T)) := lQ hg2 hm2 hv rfl hn hdb
 have hs' : starEach (a :: [.Name Tn p2]) X.env = (false, eval a X.env) :: starEach [.Name Tn p2] X.env := hs
 refine ⟨_, dM (pE (cl := cl) T) hg hm boot_isinstance (pa_cons pa (pa_cons pt pa_nil rfl) hs') (by decide) (by decide) hs' rfl, fun F σ δ H Q S h => ?_⟩
 simp only [ev] at h
 refine ia F σ δ H _ S (Meet.mono (Meet.bind h) (fun d _ hp F1 x H1 u1 g1 => ?_) fun c z => z)
 have hp1 := Post.up hp u1
 rcases ho d with ⟨e, pl⟩ | e
 ·rw [e] at hp1
  exact ⟨F1, d, x, _, rfl, g1.got, pl, kit_ty X.K T hT d pl, Post.bl hp1⟩
 ·rw [e] at hp1; exact hp1.no.elim
theorem pF (d : D) : (op1 .isInt d = .ok (.bl (isTy "int" d)) ∧ pln 1000 d = true) ∨ op1 .isInt d = .bad := by
 cases d <;> first | exact .inl ⟨rfl, by simp [pln]⟩ | exact .inr rfl | skip
 all_goals exact Classical.byCases (fun hc => .inl ⟨if_pos hc, hc⟩) fun hc => .inr (if_neg hc)
theorem nB (d : D) : (op1 .isBool d = .ok (.bl (isTy "bool" d)) ∧ pln 1000 d = true) ∨ op1 .isBool d = .bad := by
 cases d <;> first | exact .inl ⟨rfl, by simp [pln]⟩ | exact .inr rfl | skip
 all_goals exact Classical.byCases (fun hc => .inl ⟨if_pos hc, hc⟩) fun hc => .inr (if_neg hc)
theorem pG (d : D) : (op1 .isTup d = .ok (.bl (isTy "tuple" d)) ∧ pln 1000 d = true) ∨ op1 .isTup d = .bad := by
 cases d <;> first | exact .inl ⟨rfl, by simp [pln]⟩ | exact .inr rfl | skip
 all_goals exact Classical.byCases (fun hc => .inl ⟨if_pos hc, hc⟩) fun hc => .inr (if_neg hc)
end
end L2.Snd
namespace L2.Snd
open PySem PySem.Spec PyProof.Rows L2 Py
def spOf (K : PySem.W.Frag) (cl : Nat → Addr) (Φ : Nat → List D → R D) (f : Nat) : Sp := fun vs H Q E => ∃ F ds, Trk F H ∧ Reps K cl F H ds vs ∧
 Meet (Φ f ds) (fun d => ∀ F' v H', Up F H F' H' → Rep K cl F' H' d v → Q v H') fun c => ∀ F' H', Up F H F' H' → E (.ref (cl c)) none H'
def XK1 (cl : Nat → Addr) (YE : Nat → Hp → Prop) : XK := fun k _ H' => ∃ c, k = .ref (cl c) ∧ YE c H'
section
variable {X : Cx} {cl : Nat → Addr} {XE : Nat → St → Hp → Prop} {YE : Nat → Hp → Prop} {Φ : Nat → List D → R D} {G : List D} {m fr : Bool}
def PassAt (CX : CXT) (X : Cx) (σ : St) (E : XK) : Prop := ∀ (pins : List (Addr × Obj)) (H : Hp) (s : Shared) (e : Value) (s' : Shared), Inv X pins σ H s → CX X.stack H s E e s' → X.xe e s'
theorem run_fnX {CX : CXT} {k : Nat} {f : Addr} {fd : FuncData} {ps : List Str} {sp : Sp} {E : XK} {pins : List (Addr × Obj)} {σ : St} {H : Hp} {s : Shared} {Q : VK} {us : List Value} {vs : List V} (Fo : FnOk X.prog X.w X.K X.mg X.base CX k f fd ps sp) (hr : Room k X.A)
  (hb : Binds X.K fd ps []) (hx : PassAt CX X σ E) (I : Inv X pins σ H s) (r : Vals vs us) (h : sp vs H Q E) : wpAny (model X.prog X.w) X.A (call (.ref f) us) (EP X pins σ Q) X.xe s := by
 have hl : (us ++ []).length = ps.length := by rw [List.append_nil, ← r.length]; exact Fo.len _ _ _ _ h
 have hbb := hb s us I.kIn hl
 rw [List.append_nil] at hbb
 refine wpAny_call (codeAny_mono (Fo.run X.A X.stack s H ⟨us, []⟩ us vs Q E hr I.env0 hbb r h) fun r s' hq => ?_)
 cases r with
 | error e => exact hx pins H s e s' I hq
 | ok fl =>
  cases fl with
  | ret u => exact I.after hq
  | next => exact False.elim hq
  | brk => exact False.elim hq
  | cont => exact False.elim hq
theorem pI {CX : CXT} {k : Nat} {f : Addr} {fd : FuncData} {ps : List Str} {sp : Sp} {E : St → XK} {x : Str} {p pos : Pos} {e : Expr} {es : List Expr} {t : TA} (Fo : FnOk X.prog X.w X.K X.mg X.base CX k f fd ps sp) (hr : Room k X.A) (hg : Gl X x) (hm : X.mg x = some (.ref f))
  (hk : PySem.W.keepIn X.K (.ref f) = true) (hb : Binds X.K fd ps []) (hx : ∀ σ, PassAt CX X σ (E σ)) (ha : PA X (e :: es) t) (hdb : (x == ("__debug__" : Str)) = false)
  (he : starEach (e :: es) X.env = (false, eval e X.env) :: starEach es X.env) (hpl : (backTo pos (starEach es X.env)).any (·.1) = false) :
  PE X (.Call (.Name x p) (e :: es) [] pos) (fun σ H Q => t σ H fun vs H1 => sp vs H1 Q (E σ)) := by
 intro pins s σ H Q I h
 refine wpAny_Call_Name_kw (eV I hg hm ?_ hdb)
 refine PySem.W.callWith_K (h₀ := X.base) I.ok.mod.kin hk (thn (ha pos pins s σ H _ I h) fun us s1 ⟨vs, H1, I1, r, q⟩ => ⟨I1.kIn, ?_⟩) he hpl
 exact run_fnX Fo hr hb (hx σ) I1 r q
theorem ok_call {CX : CXT} {k : Nat} {fa : Addr} {fd : FuncData} {ps : List Str} {f : Nat} {x : Str} {p pos : Pos} {exs : List Ex} {e : Expr} {es : List Expr} (Fo : FnOk X.prog X.w X.K X.mg X.base CX k fa fd ps (spOf X.K cl Φ f)) (hr : Room k X.A)
  (hg : Gl X x) (hm : X.mg x = some (.ref fa)) (hk : PySem.W.keepIn X.K (.ref fa) = true) (hb : Binds X.K fd ps []) (hx : ∀ σ, PassAt CX X σ (XK1 cl fun c => XE c σ)) (hdb : (x == ("__debug__" : Str)) = false)
  (he : starEach (e :: es) X.env = (false, eval e X.env) :: starEach es X.env) (hpl : (backTo pos (starEach es X.env)).any (·.1) = false) (ia : OkA X cl XE Φ G false exs (e :: es)) :
  OkE X cl XE Φ G m (.call f exs) (.Call (.Name x p) (e :: es) [] pos) := by
 obtain ⟨ta, pa, ia⟩ := ia
 refine ⟨_, pI Fo hr hg hm hk hb hx pa hdb he hpl, fun F σ δ H Q S h => ?_⟩
 simp only [ev] at h
 refine ia F σ δ H _ S (Meet.mono (Meet.bind h) (fun ds _ hp F1 vs H1 u1 g1 => ?_) fun c z => z)
 rw [if_neg Bool.false_ne_true] at g1
 refine ⟨F1, ds, (S.up u1).trk, g1, Meet.mono (Post.up hp u1) (fun d _ q F2 v H2 u2 r2 => q F2 v H2 u2 (Res.gives (.of_rep r2 (by simp [frsh])))) fun c z F2 H2 u2 => ⟨c, rfl, z F2 H2 u2⟩⟩
variable {F : Addr → Prop} {H : Hp} {Q : VK} {x y : V} {p q : D}
theorem iP : ∀ {ks : List Int} {ds : List D} {kvs : List (Key × V)} (i : Int), kvs.map (·.1) = ks.map Sum.inl → Reps X.K cl F H ds (kvs.map (·.2)) →
  (match lookD ks ds i with | some d => ∃ v, valV kvs (Sum.inl i) = some v ∧ Rep X.K cl F H d v | none => valV kvs (Sum.inl i) = none) ∧ decide (i ∈ ks) = (valV kvs (Sum.inl i)).isSome
 | [], ds, kvs, i, h, r => by
  have : kvs = [] := by cases kvs with | nil => rfl | cons _ _ => simp at h
  subst this
  have : ds = [] := by have := r.length; cases ds with | nil => rfl | cons _ _ => simp at this
  subst this
  exact ⟨rfl, rfl⟩
 | k :: ks, ds, kvs, i, h, r => by
  cases kvs with
  | nil => simp at h
  | cons kv kvs =>
   obtain ⟨kk, v⟩ := kv
   simp only [List.map_cons, List.cons.injEq] at h
   obtain ⟨h1, h2⟩ := h
   subst h1
   cases ds with
   | nil => have := r.length; simp at this
   | cons d ds =>
    obtain ⟨v', r', z, a1, a2⟩ := r.cons_inv
    have z' : v = v' ∧ kvs.map (·.2) = r' := by simpa using z
    obtain ⟨rfl, rfl⟩ := z'
    obtain ⟨ih1, ih2⟩ := iP i h2 a2
    by_cases hc : k = i
    ·subst hc
     have e1 : valV ((Sum.inl k, v) :: kvs) (Sum.inl k : Key) = some v := dN rfl
     refine ⟨?_, ?_⟩
     ·simp only [lookD, if_true]
      exact ⟨v, e1, a1⟩
     ·rw [e1]; simp
    ·have e1 : valV ((Sum.inl k, v) :: kvs) (Sum.inl i : Key) = valV kvs (Sum.inl i) := dO (fun z => hc (Sum.inl.inj z))
     refine ⟨?_, ?_⟩
     ·simp only [lookD, if_neg hc]
      rw [e1]; exact ih1
     ·rw [e1, ← ih2]
      simp only [List.mem_cons, decide_eq_decide]
      constructor
      ·rintro (z | z)
       ·exact absurd z.symm hc
       ·exact z
      ·exact .inr
theorem ok_dget {ea eb : Ex} {a b : Expr} {pos : Pos} (hu : X.A.units + 1 < cLine) (hs : NoSl b) (ia : OkE X cl XE Φ G true ea a) (ib : OkE X cl XE Φ G true eb b) : OkE X cl XE Φ G m (.dget ea eb) (.Subscript a b pos) := by
 obtain ⟨ta, pa, ia⟩ := ia
 obtain ⟨tb, pb, ib⟩ := ib
 refine ⟨_, pe_dget hu pa pb hs, fun F σ δ H Q S h => ?_⟩
 simp only [ev] at h
 refine ia F σ δ H _ S (Meet.mono (Meet.bind h) (fun p _ hp F1 x H1 u1 g1 => ?_) fun c z => z)
 refine ib F1 σ δ H1 _ (S.up u1) (Meet.mono (Meet.bind (Post.up hp u1)) (fun q _ hq F2 y H2 u2 g2 => ?_) fun c z => z)
 have hq2 := Post.up (K := X.K) (cl := cl) hq u2
 obtain ⟨ks, ds, i, rfl, rfl⟩ : ∃ ks ds i, p = .dic ks ds ∧ q = .int i := by
  cases p <;> cases q <;> first | exact (show False from hq2).elim | exact ⟨_, _, _, rfl, rfl⟩
 obtain ⟨l, kvs, rfl, h1, h2, h3⟩ := (g1.got.up u2).dic
 have hq3 : Post X.K cl (fun c => XE c σ) m (frsh (.dget ea eb)) F2 H2 Q (ofO (lookD ks ds i)) := hq2
 have lk := (iP i h2 h3).1
 cases e : lookD ks ds i with
 | none => rw [e] at hq3; exact (show False from hq3).elim
 | some d =>
  rw [e] at hq3 lk
  obtain ⟨v, e1, e2⟩ := lk
  refine ⟨l, v, rfl, ?_, Post.hereR hq3 e2 (by simp [frsh])⟩
  rw [g2.got.int]
  have := DGet.k (k := Sum.inl i) h1
  rw [e1] at this
  exact this
theorem nC : CallR X (.builtin "len") (fun xs H Q => ∃ a kvs, xs = [V.ref a] ∧ H a = some (.dK kvs) ∧ Q (.int kvs.length) H) := by
 intro pins s σ H xs us Q I r h
 obtain ⟨a, kvs, rfl, ha, q⟩ := h
 obtain ⟨u, rfl, ru⟩ := vals1 r
 cases ru
 exact d_len I (.inl ha) fun t s' I' => ⟨.int kvs.length, H, I', ⟨t, rfl⟩, q⟩
def lenD : D → R D
 | .dic ks _ => .ok (.int ks.length)
 | _ => .bad
theorem ok_dlen {ea : Ex} {a : Expr} {p pos : Pos} (hg : Gl X "len") (hm : X.mg "len" = none) (hs : starEach [a] X.env = [(false, eval a X.env)]) (ia : OkE X cl XE Φ G true ea a) : OkE X cl XE Φ G m (.dlen ea) (.Call (.Name "len" p) [a] [] pos) := by
 have hs' : starEach (a :: []) X.env = (false, eval a X.env) :: starEach [] X.env := hs
 refine dX (exs := [ea]) (o := lift1 lenD) (fun δ => ?_) nC hg hm PySem.boot_len (by decide) (by decide) hs' rfl (bP hs' ia aF) fun YE F H vs ds Q t g h => ?_
 ·simp only [ev, evs]
  cases ev Φ G true ea δ with
  | ok d => cases d <;> rfl
  | exc c => rfl
  | bad => rfl
 ·match ds, g, h with
  | [], _, h => exact (show False from h).elim
  | _ :: _ :: _, _, h => exact (show False from h).elim
  | [d], g, h =>
   obtain ⟨v, rfl, gv⟩ := Paired.one g
   have h : Post X.K cl YE m (frsh (.dlen ea)) F H Q (lenD d) := h
   obtain ⟨ks, ws, rfl⟩ : ∃ ks ws, d = .dic ks ws := by
    cases d <;> first | exact (show False from h).elim | exact ⟨_, _, rfl⟩
   obtain ⟨l, kvs, rfl, h1, h2, h3⟩ := gv.dic
   have hl : kvs.length = ks.length := by have := congrArg List.length h2; simpa using this
   exact ⟨l, kvs, rfl, h1, by rw [hl]; exact Post.int h⟩
theorem tru_of {t : R Bool} (g : Got X.K cl F H p x) {Q : Bool → Hp → Prop} (h : PostT YE F H Q (truth p)) : ∃ k, TruV X.K x H k ∧ Q k H := by
 cases p with
 | non => rw [g.non]; exact ⟨false, rfl, h F H (Up.refl F H)⟩
 | bl b => rw [g.bl]; exact ⟨b, rfl, h F H (Up.refl F H)⟩
 | int i =>
  rw [g.int]
  refine ⟨_, rfl, ?_⟩
  have e : (i != 0) = decide (i ≠ 0) := by
   by_cases hc : i = 0
   ·subst hc; rfl
   ·simp [hc]
  rw [e]; exact h F H (Up.refl F H)
 | str z => exact (show False from h).elim
 | tup ds =>
  obtain ⟨a, vs, rfl, h1, r1⟩ := g.tup
  refine ⟨!ds.isEmpty, .inr (.inl ⟨vs, h1, ?_⟩), h F H (Up.refl F H)⟩
  have := r1.length
  cases ds <;> cases vs <;> simp at this ⊢
 | lst ds =>
  obtain ⟨a, vs, rfl, h1, r1⟩ := g.lst
  refine ⟨!ds.isEmpty, .inl ⟨vs, SqL.of h1, ?_⟩, h F H (Up.refl F H)⟩
  have := r1.length
  cases ds <;> cases vs <;> simp at this ⊢
 | dic _ _ => exact (show False from h).elim
 | exn _ => exact (show False from h).elim
 | scr _ => exact (show False from h).elim
theorem ok_leaf {ex : Ex} {e : Expr} (he : ∀ whole, isTrue e X.env whole = (do let v ← whole; standAt e.pos; holding [v] (truthy v))) (ia : OkE X cl XE Φ G true ex e) : OkT X cl XE Φ G (.leaf ex) e := by
 obtain ⟨ta, pa, ia⟩ := ia
 refine ⟨_, oM pa he, fun F σ δ H Q S h => ?_⟩
 simp only [evT] at h
 refine ia F σ δ H _ S (Meet.mono (Meet.bind h) (fun p _ hp F1 x H1 u1 g1 => ?_) fun c z => z)
 exact tru_of (t := .bad) g1.got (PostT.up hp u1)
theorem dY {tx : Tx} {e : Expr} {pos : Pos} (ia : OkT X cl XE Φ G tx e) : OkT X cl XE Φ G (.not tx) (.UnaryOp .Not e pos) := by
 obtain ⟨ta, pa, ia⟩ := ia
 refine ⟨_, pt_not pa, fun F σ δ H Q S h => ?_⟩
 simp only [evT] at h
 exact ia F σ δ H _ S (Meet.mono (Meet.bind h) (fun b _ hp F1 H1 u1 => hp F1 H1 u1) fun c z => z)
theorem jM {tx : Tx} {e : Expr} {pos : Pos} (ia : OkT X cl XE Φ G tx e) : OkW X cl XE Φ G tx (.BoolOp .And [e] pos) := by
 obtain ⟨ta, pa, ia⟩ := ia
 exact ⟨_, pw_and1 pa, ia⟩
theorem cJ {tx : Tx} {e : Expr} {pos : Pos} (ia : OkT X cl XE Φ G tx e) : OkW X cl XE Φ G tx (.BoolOp .Or [e] pos) := by
 obtain ⟨ta, pa, ia⟩ := ia
 exact ⟨_, pw_or1 pa, ia⟩
theorem iQ {ta tb : Tx} {a b : Expr} {rest : List Expr} {pos : Pos} (ia : OkT X cl XE Φ G ta a) (ib : OkW X cl XE Φ G tb (.BoolOp .And (b :: rest) pos)) : OkW X cl XE Φ G (.and ta tb) (.BoolOp .And (a :: b :: rest) pos) := by
 obtain ⟨ra, pa, ia⟩ := ia
 obtain ⟨rb, pb, ib⟩ := ib
 refine ⟨_, pw_and pa pb, fun F σ δ H Q S h => ?_⟩
 simp only [evT] at h
 refine ia F σ δ H _ S (Meet.mono (Meet.bind h) (fun c _ hp F1 H1 u1 => ?_) fun c z => z)
 have hp := PostT.up hp u1
 cases c with
 | true => exact ib F1 σ δ H1 Q (S.up u1) hp
 | false => exact hp F1 H1 (Up.refl F1 H1)
theorem cC {ta tb : Tx} {a b : Expr} {rest : List Expr} {pos : Pos} (ia : OkT X cl XE Φ G ta a) (ib : OkW X cl XE Φ G tb (.BoolOp .Or (b :: rest) pos)) : OkW X cl XE Φ G (.or ta tb) (.BoolOp .Or (a :: b :: rest) pos) := by
 obtain ⟨ra, pa, ia⟩ := ia
 obtain ⟨rb, pb, ib⟩ := ib
 refine ⟨_, pw_or pa pb, fun F σ δ H Q S h => ?_⟩
 simp only [evT] at h
 refine ia F σ δ H _ S (Meet.mono (Meet.bind h) (fun c _ hp F1 H1 u1 => ?_) fun c z => z)
 have hp := PostT.up hp u1
 cases c with
 | true => exact hp F1 H1 (Up.refl F1 H1)
 | false => exact ib F1 σ δ H1 Q (S.up u1) hp
theorem OkW.t {tx : Tx} {e : Expr} (h : OkW X cl XE Φ G tx e) : OkT X cl XE Φ G tx e := let ⟨t, p, q⟩ := h; ⟨t, p.pt, q⟩
end
end L2.Snd
namespace L2.Snd
open PySem PySem.Spec PyProof.Rows L2 Py
def tE (K : PySem.W.Frag) (cl : Nat → Addr) (XE : Nat → St → Hp → Prop) (Φ : Nat → List D → R D) (G : List D) (m : Bool) (ex : Ex) : TE := fun σ H Q => ∃ F δ, Sees K cl F H σ δ ∧ Post K cl (fun c => XE c σ) m (frsh ex) F H Q (ev Φ G m ex δ)
def tO (K : PySem.W.Frag) (cl : Nat → Addr) (XE : Nat → St → Hp → Prop) (Φ : Nat → List D → R D) (G : List D) (c : Option Tx) : TT := fun σ H Q => ∃ F δ, Sees K cl F H σ δ ∧ PostT (fun c => XE c σ) F H Q (evO Φ G c δ)
section
variable {X : Cx} {cl : Nat → Addr} {XE : Nat → St → Hp → Prop} {YE : Nat → Hp → Prop} {Φ : Nat → List D → R D} {G : List D} {m fr : Bool}
theorem OkE.pe {ex : Ex} {e : Expr} (h : OkE X cl XE Φ G m ex e) : PE X e (tE X.K cl XE Φ G m ex) := by
 obtain ⟨t, p, q⟩ := h
 exact fun pins s σ H Q I ⟨F, δ, S, z⟩ => p pins s σ H Q I (q F σ δ H Q S z)
def OkC (X : Cx) (cl : Nat → Addr) (XE : Nat → St → Hp → Prop) (Φ : Nat → List D → R D) (G : List D) (c : Option Tx) (ifs : List Expr) : Prop := PTs X ifs (tO X.K cl XE Φ G c)
theorem dZ : OkC X cl XE Φ G none [] := fun pins s σ H Q I ⟨F, δ, S, z⟩ => lW pins s σ H Q I (by simp only [evO] at z; exact z F H (Up.refl F H))
theorem jN {tx : Tx} {e : Expr} (h : OkT X cl XE Φ G tx e) : OkC X cl XE Φ G (some tx) [e] := by
 obtain ⟨t, p, q⟩ := h
 exact fun pins s σ H Q I ⟨F, δ, S, z⟩ => pts_one p pins s σ H Q I (q F σ δ H Q S (by simpa only [evO] using z))
def Stb (m : Bool) (F : Addr → Prop) (H H' : Hp) : Prop := if m = true then Same H H' else Pres F H H'
structure Wk (K : PySem.W.Frag) (cl : Nat → Addr) (m : Bool) (J : It) (xs : List D) (P : (Addr → Prop) → Hp → Prop) : Prop where
 st : ∀ F H F' H', P F H → Stb m F H H' → (∀ a, F a → F' a) → P F' H'
 go : ∀ F H (i : Nat) x, P F H → xs[i]? = some x → J.go i H ∧ ∀ v H', J.yld i H v H' → Up F H F H' ∧ Rep K cl F H' x v
 stop : ∀ F H, P F H → J.stop xs.length H
def OkI (X : Cx) (cl : Nat → Addr) (XE : Nat → St → Hp → Prop) (Φ : Nat → List D → R D) (G : List D) (m : Bool) (k : IterK) (its : List Ex) (tg iter : Expr) : Prop := ∃ wi, PI X tg iter wi ∧ ∀ F σ δ H R, Sees X.K cl F H σ δ →
 Meet ((evs Φ G m its δ).bind (itemsD k)) (fun xs => ∀ F' H' J P, Up F H F' H' → Wk X.K cl m J xs P → P F' H' → R J H') (fun c => ∀ F' H', Up F H F' H' → XE c σ H') → wi σ H R
theorem PI.or {tg iter : Expr} {wi wi' : TI} (h : PI X tg iter wi) (h' : PI X tg iter wi') : PI X tg iter (fun σ H R => wi σ H R ∨ wi' σ H R) := fun pins s σ H R I z => z.elim (h pins s σ H R I) (h' pins s σ H R I)
theorem mB {a : Addr} {xs : List D} : Wk X.K cl m (Itl X.K a) xs (fun F H => (m = true ∨ F a) ∧ ∃ vs, H a = some (.lst vs) ∧ Reps X.K cl F H xs vs) where
 st := fun F H F' H' ⟨hm, vs, h1, r1⟩ hs sub => by
  unfold Stb at hs
  by_cases hc : m = true
  ·rw [if_pos hc] at hs
   exact ⟨.inl hc, vs, hs _ _ h1, r1.mono (Pres.of_same hs) sub⟩
  ·rw [if_neg hc] at hs
   have fa : F a := hm.resolve_left hc
   exact ⟨.inr (sub a fa), vs, hs.fr _ _ fa h1, r1.mono hs sub⟩
 go := fun F H i x ⟨_, vs, h1, r1⟩ hx => by
  obtain ⟨v, h2, h3⟩ := r1.get hx
  refine ⟨⟨vs, v, SqL.of h1, h2⟩, fun w H' hy => ?_⟩
  obtain ⟨rfl, hy⟩ := hy
  have := hy vs (SqL.of h1)
  rw [h2] at this; cases this
  exact ⟨Up.refl F _, h3⟩
 stop := fun F H ⟨_, vs, h1, r1⟩ => ⟨vs, SqL.of h1, by rw [r1.length]; exact Nat.le_refl _⟩
theorem wk_tup {a : Addr} {xs : List D} : Wk X.K cl m (Itt X.K a) xs (fun F H => ∃ vs, SqT X.K H a vs ∧ Reps X.K cl F H xs vs) where
 st := fun F H F' H' ⟨vs, h1, r1⟩ hs sub => by
  have hs' : Pres F H H' := by
   unfold Stb at hs
   by_cases hc : m = true
   ·rw [if_pos hc] at hs; exact Pres.of_same hs
   ·rw [if_neg hc] at hs; exact hs
  exact ⟨vs, hs'.sqT h1, r1.mono hs' sub⟩
 go := fun F H i x ⟨vs, h1, r1⟩ hx => by
  obtain ⟨v, h2, h3⟩ := r1.get hx
  refine ⟨⟨vs, v, h1, h2⟩, fun w H' hy => ?_⟩
  obtain ⟨rfl, hy⟩ := hy
  have := hy vs h1
  rw [h2] at this; cases this
  exact ⟨Up.refl F _, h3⟩
 stop := fun F H ⟨vs, h1, r1⟩ => ⟨vs, h1, by rw [r1.length]; exact Nat.le_refl _⟩
theorem kR {lo : Int} {n i : Nat} {x : D} (h : (rangeD lo n)[i]? = some x) : i < n ∧ x = .int (lo + i) := by
 unfold rangeD at h
 rw [List.getElem?_map] at h
 by_cases hc : i < n
 ·rw [List.getElem?_range hc] at h
  simp at h
  exact ⟨hc, h.symm⟩
 ·rw [List.getElem?_eq_none (by simp; omega)] at h; cases h
theorem wk_rng {lo : Int} {n : Nat} : Wk X.K cl m (Itr lo n) (rangeD lo n) (fun _ _ => True) where
 st := fun _ _ _ _ _ _ _ => trivial
 go := fun F H i x _ hx => by
  obtain ⟨hi, rfl⟩ := kR hx
  refine ⟨hi, fun v H' hy => ?_⟩
  obtain ⟨rfl, rfl⟩ := hy
  exact ⟨Up.refl F _, by simp [Rep]⟩
 stop := fun F H _ => by show n ≤ (rangeD lo n).length; simp [rangeD]
theorem fQ {k : IterK} {ss : List D} {P : List D → Prop} {E : Nat → Prop} (h : Meet (itemsD k ss) P E) : ∃ xs, items0 k ss = .ok xs ∧ P xs := by
 unfold itemsD at h
 cases e : items0 k ss with
 | ok xs =>
  rw [e] at h
  simp only [R.bind_ok] at h
  by_cases hc : xs.length ≤ LIM
  ·rw [if_pos hc] at h; exact ⟨xs, rfl, h⟩
  ·rw [if_neg hc] at h; exact (show False from h).elim
 | exc c =>
  exfalso
  cases k <;> (simp only [items0] at e; split at e <;> first | cases e | (split at e <;> cases e))
 | bad => rw [e] at h; exact (show False from h).elim
theorem pJ {F : Addr → Prop} {H : Hp} {ds : List D} {vs : List V} (g : if m = true then Paired (Got X.K cl F H) ds vs else Reps X.K cl F H ds vs) : Paired (Got X.K cl F H) ds vs := by
 by_cases hc : m = true
 ·rw [if_pos hc] at g; exact g
 ·rw [if_neg hc] at g
  clear hc
  induction ds generalizing vs with
  | nil => rw [g.nil_inv]; exact .nil
  | cons d ds ih => obtain ⟨v, r, rfl, a1, a2⟩ := g.cons_inv; exact .cons (.inl a1) (ih a2)
theorem ok_rng {ea : Ex} {a tg : Expr} {p pos : Pos} (hg : Gl X "range") (hm : X.mg "range" = none) (hs : starEach [a] X.env = [(false, eval a X.env)]) (ia : OkE X cl XE Φ G m ea a) : OkI X cl XE Φ G m .rng [ea] tg (.Call (.Name "range" p) [a] [] pos) := by
 obtain ⟨ta, pa, ia⟩ := bP (es := []) (as := []) hs ia aF
 refine ⟨_, mS hg hm pa hs, fun F σ δ H R S h => ?_⟩
 refine ia F σ δ H _ S (Meet.mono (Meet.bind h) (fun ds _ hd F1 vs H1 u1 g1 => ?_) fun c z => z)
 obtain ⟨xs, e, hx⟩ := fQ hd
 have g2 := pJ g1
 match ds, e, g2 with
 | [], e, _ => cases e
 | _ :: _ :: _, e, _ => simp [items0] at e
 | [d], e, g2 =>
  obtain ⟨v, rfl, gv⟩ := Paired.one g2
  obtain ⟨n, rfl⟩ : ∃ n, d = .int n := by
   cases d <;> first | (simp [items0] at e; done) | exact ⟨_, rfl⟩
  simp only [items0] at e
  by_cases hc : -(LIM : Int) ≤ n ∧ n ≤ (LIM : Int)
  ·rw [if_pos hc] at e
   cases e
   rw [gv.int]
   have hl : (LIM : Int) = 100000 := rfl
   exact ⟨n, rfl, by have := hc.1; omega, by have := hc.2; omega, hx F1 H1 _ _ u1 wk_rng trivial⟩
  ·rw [if_neg hc] at e; cases e
theorem bI {ea : Ex} {a tg : Expr} (ia : OkE X cl XE Φ G m ea a) : OkI X cl XE Φ G m .seq [ea] tg a := by
 obtain ⟨ta, pa, ia⟩ := ia
 refine ⟨_, PI.or (pi_list pa) (pi_tup pa), fun F σ δ H R S h => ?_⟩
 simp only [evs] at h
 cases e : ev Φ G m ea δ with
 | bad => rw [e] at h; exact (show False from h).elim
 | exc c =>
  rw [e] at h
  refine .inl (ia F σ δ H _ S ?_)
  rw [e]; exact h
 | ok d =>
  rw [e] at h
  obtain ⟨xs, e2, hx⟩ := fQ (show Meet (itemsD .seq [d]) _ _ from h)
  cases d <;> first | (simp [items0] at e2; done) | skip
  ·rename_i ys
   cases e2
   refine .inr (ia F σ δ H _ S ?_)
   rw [e]
   intro F1 v H1 u1 g1
   obtain ⟨b, ws, rfl, h1, r1⟩ := g1.got.tup
   exact ⟨b, rfl, ⟨ws, h1⟩, hx F1 H1 _ _ u1 wk_tup ⟨ws, h1, r1⟩⟩
  ·rename_i ys
   cases e2
   refine .inl (ia F σ δ H _ S ?_)
   rw [e]
   intro F1 v H1 u1 g1
   by_cases hc : m = true
   ·obtain ⟨b, ws, rfl, h1, r1⟩ := g1.got.lst
    exact ⟨b, rfl, ⟨ws, SqL.of h1⟩, hx F1 H1 _ _ u1 mB ⟨.inl hc, ws, h1, r1⟩⟩
   ·unfold Gives at g1
    rw [if_neg hc] at g1
    obtain ⟨F2, u2, _, rp⟩ := g1.keep u1
    simp only [Rep] at rp
    obtain ⟨b, ws, rfl, fa, h1, r1⟩ := rp
    exact ⟨b, rfl, ⟨ws, SqL.of h1⟩, hx F2 H1 _ _ u2 mB ⟨.inr fa, ws, h1, r1⟩⟩
end
end L2.Snd
namespace L2.Snd
open PySem PySem.Spec PyProof.Rows L2 Py
def setsV (σ : St) : List Nat → List V → St
 | i :: is, v :: vs => setsV (σ.set i (some v)) is vs
 | _, _ => σ
theorem eD : ∀ (is : List Nat) (vs : List V) (σ : St), (setsV σ is vs).length = σ.length
 | [], _, σ => rfl
 | _ :: _, [], σ => rfl
 | i :: is, v :: vs, σ => by rw [setsV, eD is vs]; simp
theorem cS : ∀ (is : List Nat) (vs : List V) (σ : St) (j : Nat), j ∉ is → (setsV σ is vs)[j]? = σ[j]?
 | [], _, σ, j, _ => rfl
 | _ :: _, [], σ, j, _ => rfl
 | i :: is, v :: vs, σ, j, h => by
  rw [setsV, cS is vs _ j fun z => h (List.mem_cons_of_mem _ z), List.getElem?_set_ne]
  rintro rfl; exact h List.mem_cons_self
section
variable {X : Cx} {cl : Nat → Addr} {XE : Nat → St → Hp → Prop} {YE : Nat → Hp → Prop} {Φ : Nat → List D → R D} {G : List D} {m fr : Bool}
def OkG (X : Cx) (cl : Nat → Addr) (tgs : List Nat) (g : TG) (tg : Expr) : Prop := PG X tg g ∧ ∀ F H σ v x ts Q, spread tgs.length x = some ts → Rep X.K cl F H x v → (∀ vs, Reps X.K cl F H ts vs → Q (setsV σ tgs vs) H) → g v σ H Q
theorem ok_g1 {i : Nat} {x : Str} {pos : Pos} (hN : X.N.Nodup) (hi : X.N[i]? = some x) (hx : Loc X.env.scope x) (hf : X.fn x = true ∨ X.env.scope.names.lookup x = some .local) : OkG X cl [i] (gName i) (.Name x pos) := by
 refine ⟨dL hN hi hx hf, fun F H σ v x ts Q hs r q => ?_⟩
 have : ts = [x] := by simpa [spread] using hs.symm
 subst this
 exact q [v] (Reps.cons r Reps.nil)
theorem ok_g2 {i j : Nat} {x y : Str} {k : Nat} {pos p1 p2 : Pos} (hc : X.calm = true) (hN : X.N.Nodup) (hi : X.N[i]? = some x) (hx : Loc X.env.scope x) (hf : X.fn x = true ∨ X.env.scope.names.lookup x = some .local)
  (hj : X.N[j]? = some y) (hy : Loc X.env.scope y) (hf2 : X.fn y = true ∨ X.env.scope.names.lookup y = some .local) :
  OkG X cl [i, j] (gTup X.K 2 (gCons (gName i) (gCons (gName j) gNil))) (.Tuple [.Name x p1, .Name y p2] k pos) := by
 refine ⟨pg_tup hc (jA (dL hN hi hx hf) (jA (dL hN hj hy hf2) pgs_nil)), fun F H σ v d ts Q hs r q => ?_⟩
 cases d with
 | tup xs =>
  have hs' : (if xs.length = 2 then some xs else none) = some ts := hs
  by_cases hl : xs.length = 2
  ·rw [if_pos hl] at hs'
   cases hs'
   simp only [Rep] at r
   obtain ⟨a, vs, rfl, h1, r1⟩ := r
   have hv : vs.length = 2 := by rw [r1.length, hl]
   match vs, hv, h1, r1 with
   | [v1, v2], _, h1, r1 => exact ⟨a, [v1, v2], rfl, h1, rfl, v1, [v2], rfl, v2, [], rfl, rfl, q [v1, v2] r1⟩
  ·rw [if_neg hl] at hs'; cases hs'
 | _ => cases hs
theorem jO {F F' : Addr → Prop} {H H' : Hp} {σ σ' : St} {δ : Sto} {caps : List Nat} {ntg : Nat} {ts : List D} {vs : List V} (S : Sees X.K cl F H σ δ) (u : Up F H F' H') (hl : σ'.length = ntg + caps.length)
  (hc : ∀ j, ntg ≤ j → σ'[j]? = (capS σ caps ntg)[j]?) (hts : ts.length = ntg) (r : Reps X.K cl F' H' ts vs) :
  Sees X.K cl F' H' (setsV σ' (List.range ntg) vs) (ts.map (fun t => some (false, t)) ++ capOf δ caps) := by
 have S' := S.up u
 have hv : vs.length = ntg := by rw [r.length, hts]
 -- the targets
 have tgt : ∀ (n k : Nat) (ws : List V) (τ : St), ws.length = n → k + n ≤ τ.length → ∀ i, i < n → (setsV τ (List.range' k n) ws)[k + i]? = (ws[i]?).map some := by
  intro n
  induction n with
  | zero => intro k ws τ _ _ i hi; exact absurd hi (Nat.not_lt_zero i)
  | succ n ih =>
   intro k ws τ hw hτ i hi
   match ws, hw with
   | w :: ws, hw =>
    have hw' : ws.length = n := by simpa using hw
    rw [List.range'_succ, setsV]
    cases i with
    | zero =>
     rw [cS _ _ _ _ (by simp [List.mem_range']; omega)]
     simp [List.getElem?_set_self (show k < τ.length by omega)]
    | succ i =>
     have := ih (k + 1) ws (τ.set k (some w)) hw' (by simp; omega) i (by omega)
     rw [show k + (i + 1) = k + 1 + i by omega, this]
     simp
 have lenσ : (setsV σ' (List.range ntg) vs).length = ntg + caps.length := by rw [eD, hl]
 have get1 : ∀ i, i < ntg → (setsV σ' (List.range ntg) vs)[i]? = (vs[i]?).map some := fun i hi => by
  have := tgt ntg 0 vs σ' hv (by omega) i hi
  rw [List.range_eq_range']
  simpa using this
 have get2 : ∀ i, ntg ≤ i → (setsV σ' (List.range ntg) vs)[i]? = (capS σ caps ntg)[i]? := fun i hi => by
  rw [cS _ _ _ _ (by simp; omega)]
  exact hc i hi
 have capG : ∀ k, (capS σ caps ntg)[ntg + k]? = (caps[k]?).map fun j => (σ[j]?).getD none := fun k => by
  unfold capS
  rw [List.getElem?_append_right (by simp), List.length_replicate, List.getElem?_map]
  simp
 have capD : ∀ k, (ts.map (fun t => (some (false, t) : Slot)) ++ capOf δ caps)[ntg + k]? = (caps[k]?).map fun j => (δ[j]?).getD none := fun k => by
  rw [List.getElem?_append_right (by simp [hts]), List.length_map, hts]
  unfold capOf
  rw [List.getElem?_map]
  simp
 have tgtD : ∀ i, i < ntg → (ts.map (fun t => (some (false, t) : Slot)) ++ capOf δ caps)[i]? = (ts[i]?).map fun t => some (false, t) := fun i hi => by
  rw [List.getElem?_append_left (by simp [hts]; exact hi), List.getElem?_map]
 refine ⟨by rw [lenσ]; simp [capOf, hts], S'.trk, fun i d e => ?_, fun i d e => ?_⟩
 ·by_cases hi : i < ntg
  ·rw [tgtD i hi] at e
   cases q : ts[i]? with
   | none => rw [q] at e; cases e
   | some t =>
    rw [q] at e
    have : t = d := by simpa using e
    subst this
    obtain ⟨v, h1, h2⟩ := r.get q
    exact ⟨v, by rw [get1 i hi, h1]; rfl, h2⟩
  ·obtain ⟨k, rfl⟩ : ∃ k, i = ntg + k := ⟨i - ntg, by omega⟩
   rw [capD k] at e
   cases q : caps[k]? with
   | none => rw [q] at e; cases e
   | some j =>
    rw [q] at e
    have e' : (δ[j]?).getD none = some (false, d) := by simpa using e
    have e2 : δ[j]? = some (some (false, d)) := by
     cases z : δ[j]? with
     | none => rw [z] at e'; cases e'
     | some o => rw [z] at e'; simp at e'; rw [e']
    obtain ⟨v, h1, h2⟩ := S'.sh j d e2
    exact ⟨v, by rw [get2 _ (by omega), capG k, q]; simp [h1], h2⟩
 ·by_cases hi : i < ntg
  ·rw [tgtD i hi] at e
   cases q : ts[i]? with
   | none => rw [q] at e; cases e
   | some t => rw [q] at e; simp at e
  ·obtain ⟨k, rfl⟩ : ∃ k, i = ntg + k := ⟨i - ntg, by omega⟩
   rw [capD k] at e
   cases q : caps[k]? with
   | none => rw [q] at e; cases e
   | some j =>
    rw [q] at e
    have e' : (δ[j]?).getD none = some (true, d) := by simpa using e
    have e2 : δ[j]? = some (some (true, d)) := by
     cases z : δ[j]? with
     | none => rw [z] at e'; cases e'
     | some o => rw [z] at e'; simp at e'; rw [e']
    obtain ⟨a, h1, h2, h3⟩ := S'.ow j d e2
    exact ⟨a, by rw [get2 _ (by omega), capG k, q]; simp [h1], h2, h3⟩
theorem fR {k : IterK} {its : List Ex} {caps : List Nat} {ntg : Nat} {cond : Option Tx} {elt : Ex} {wi : TI} {g : TG}
   (hw : ∀ F σ δ H R, Sees X.K cl F H σ δ → Meet ((evs Φ G true its δ).bind (itemsD k)) (fun xs => ∀ F' H' J P, Up F H F' H' → Wk X.K cl true J xs P → P F' H' → R J H') (fun c => ∀ F' H', Up F H F' H' → XE c σ H') → wi σ H R)
   (hg : ∀ F H σ v x ts Q, spread ntg x = some ts → Rep X.K cl F H x v → (∀ vs, Reps X.K cl F H ts vs → Q (setsV σ (List.range ntg) vs) H) → g v σ H Q)
   {F : Addr → Prop} {σ : St} {δ : Sto} {H : Hp} {Q : VK} (S : Sees X.K cl F H σ δ) (h : Post X.K cl (fun c => XE c σ) m true F H Q (ev Φ G m (.comp k its caps ntg cond elt) δ)) :
   tComp wi g (tO X.K cl (fun _ _ _ => False) Φ G cond) (tE X.K cl (fun _ _ _ => False) Φ G false elt) caps ntg σ H Q := by
 simp only [ev] at h
 have h0 : Meet ((evs Φ G true its δ).bind (itemsD k)) (fun xs => Post X.K cl (fun c => XE c σ) m true F H Q (R.bind (R.quiet (compM (fun x => match spread ntg x with
       | none => .bad
       | some ts =>
         (evO Φ G cond (ts.map (fun t => some (false, t)) ++ capOf δ caps)).bind fun b =>
           if b then (ev Φ G false elt (ts.map (fun t => some (false, t)) ++ capOf δ caps)).bind fun y => .ok (some y) else .ok none) xs)) fun ys => .ok (.lst ys))) (fun c => ∀ F' H', Up F H F' H' → XE c σ H') := by
   have h1 := Meet.bind h
   cases e : evs Φ G true its δ with
   | ok ss => rw [e] at h1; exact Meet.bind h1
   | exc c => rw [e] at h1; exact h1
   | bad => rw [e] at h1; exact h1
 have h0' : Meet ((evs Φ G true its δ).bind (itemsD k)) (fun xs => xs.length ≤ LIM ∧ Post X.K cl (fun c => XE c σ) m true F H Q (R.bind (R.quiet (compM (fun x => match spread ntg x with
       | none => .bad
       | some ts =>
         (evO Φ G cond (ts.map (fun t => some (false, t)) ++ capOf δ caps)).bind fun b =>
           if b then (ev Φ G false elt (ts.map (fun t => some (false, t)) ++ capOf δ caps)).bind fun y => .ok (some y) else .ok none) xs)) fun ys => .ok (.lst ys))) (fun c => ∀ F' H', Up F H F' H' → XE c σ H') := by
   refine Meet.mono h0 (fun xs e z => ⟨?_, z⟩) fun c z => z
   cases e1 : evs Φ G true its δ with
   | ok ss =>
     rw [e1] at e
     have e : itemsD k ss = .ok xs := e
     unfold itemsD at e
     cases e2 : items0 k ss with
     | ok ys =>
       rw [e2] at e
       simp only [R.bind_ok] at e
       by_cases hc : ys.length ≤ LIM
       · rw [if_pos hc] at e; cases e; exact hc
       · rw [if_neg hc] at e; cases e
     | exc c => rw [e2] at e; cases e
     | bad => rw [e2] at e; cases e
   | exc c => rw [e1] at e; cases e
   | bad => rw [e1] at e; cases e
 clear h h0
 unfold tComp
 refine hw F σ δ H _ S (Meet.mono h0' (fun xs _ hx F1 H1 J P u1 W1 p1 q hq => ?_) fun c z => z)
 obtain ⟨hlen, hx⟩ := hx
 generalize hf : (fun x => match spread ntg x with
       | none => (.bad : R (Option D))
       | some ts =>
         (evO Φ G cond (ts.map (fun t => some (false, t)) ++ capOf δ caps)).bind fun b =>
           if b then (ev Φ G false elt (ts.map (fun t => some (false, t)) ++ capOf δ caps)).bind fun y => .ok (some y) else .ok none) = f at hx
 cases ho : compM f xs with
 | exc c => rw [ho] at hx; exact (show False from hx).elim
 | bad => rw [ho] at hx; exact (show False from hx).elim
 | ok out =>
   rw [ho] at hx
   have hx : Post X.K cl (fun c => XE c σ) m true F H Q (.ok (.lst out)) := hx
   have nq : ∀ b o, H1 b = some o → b ≠ q := fun b o e z => by rw [z, hq] at e; cases e
   have nF1 : ¬ F1 q := (S.up u1).trk.fresh hq
   refine ⟨fun i n σ' H' => n = xs.length - i ∧ i ≤ xs.length ∧ σ'.length = ntg + caps.length ∧ (∀ j, ntg ≤ j → σ'[j]? = (capS σ caps ntg)[j]?) ∧
     ∃ F' ys ds rest, Up F1 H1 F' H' ∧ ¬ F' q ∧ H' q = some (.lst ys) ∧ Reps X.K cl F' H' ds ys ∧ ds.length ≤ i ∧ compM f (xs.drop i) = .ok rest ∧ out = ds ++ rest, ⟨xs.length, ?_⟩, ?_⟩
   · refine ⟨by simp, Nat.zero_le _, by simp [capS], fun j _ => rfl, F1, [], [], out, Up.alloc hq, nF1, aO, Reps.nil, Nat.le_refl _, by simpa using ho, rfl⟩
   · rintro i n σ' H' ⟨rfl, hi, hl, hc, F', ys, ds, rest, u2, nF, hqs, r2, hdl, hcm, hout⟩
     have pH : P F' H' := W1.st F1 H1 F' H' p1 (by unfold Stb; rw [if_pos rfl]; exact u2.same) u2.sub
     by_cases hlt : i < xs.length
     · refine .inr ?_
       obtain ⟨go, yl⟩ := W1.go F' H' i xs[i] pH (by simp [hlt])
       refine ⟨go, fun v H2 hy => ?_⟩
       obtain ⟨u3, rx⟩ := yl v H2 hy
       have hd : xs.drop i = xs[i] :: xs.drop (i + 1) := List.drop_eq_getElem_cons hlt
       rw [hd] at hcm
       simp only [compM] at hcm
       cases hfx : f xs[i] with
       | exc c => rw [hfx] at hcm; cases hcm
       | bad => rw [hfx] at hcm; cases hcm
       | ok o =>
         rw [hfx] at hcm
         simp only [R.bind_ok] at hcm
         cases hrest : compM f (xs.drop (i + 1)) with
         | exc c => rw [hrest] at hcm; cases hcm
         | bad => rw [hrest] at hcm; cases hcm
         | ok rest' =>
           rw [hrest] at hcm
           simp only [R.bind_ok, R.ok.injEq] at hcm
           have hfx' := hfx
           rw [← hf] at hfx'
           dsimp only at hfx'
           cases hsp : spread ntg xs[i] with
           | none => rw [hsp] at hfx'; cases hfx'
           | some ts =>
             rw [hsp] at hfx'
             dsimp only at hfx'
             have hts : ts.length = ntg := by
               match ntg, xs[i], hsp with
               | 0, d, hsp => cases d <;> cases hsp
               | 1, d, hsp => have : [d] = ts := by simpa [spread] using hsp
                              subst this; rfl
               | n + 2, d, hsp =>
                 cases d <;> first | (cases hsp; done) | skip
                 simp only [spread] at hsp
                 split at hsp
                 · rename_i hh; cases hsp; exact hh
                 · cases hsp
             refine hg F' H2 σ' v xs[i] ts _ hsp rx fun vs rv => ?_
             have u3' : Up F1 H1 F' H2 := u2.trans u3
             have S2 : Sees X.K cl F' H2 (setsV σ' (List.range ntg) vs) (ts.map (fun t => some (false, t)) ++ capOf δ caps) := jO S (u1.trans u3') hl hc hts rv
             have hl2 : (setsV σ' (List.range ntg) vs).length = ntg + caps.length := by rw [eD]; exact hl
             have hc2 : ∀ j, ntg ≤ j → (setsV σ' (List.range ntg) vs)[j]? = (capS σ caps ntg)[j]? := fun j hj => by
               rw [cS _ _ _ _ (by simp; omega)]; exact hc j hj
             have hq2 : H2 q = some (.lst ys) := u3.same _ _ hqs
             cases hb : evO Φ G cond (ts.map (fun t => some (false, t)) ++ capOf δ caps) with
             | exc c => rw [hb] at hfx'; cases hfx'
             | bad => rw [hb] at hfx'; cases hfx'
             | ok b =>
               rw [hb] at hfx'
               simp only [R.bind_ok] at hfx'
               refine ⟨F', _, S2, ?_⟩
               rw [hb]
               intro F3 H3 u4
               have S3 := S2.up u4
               have hq3 : H3 q = some (.lst ys) := u4.same _ _ hq2
               have nF3 : ¬ F3 q := fun z => (u4.new q z).elim nF fun y => by rw [hq2] at y; cases y.1
               have r3 : Reps X.K cl F3 H3 ds ys := (r2.up u3).up u4
               cases b with
               | false =>
                 rw [if_neg Bool.false_ne_true] at hfx'
                 cases hfx'
                 show ∃ m', _
                 refine ⟨xs.length - (i + 1), by omega, rfl, hlt, hl2, hc2, F3, ys, ds, rest', u3'.trans u4, nF3, hq3, r3, by omega, hrest, ?_⟩
                 rw [hout, ← hcm]
               | true =>
                 rw [if_pos rfl] at hfx'
                 cases hy2 : ev Φ G false elt (ts.map (fun t => some (false, t)) ++ capOf δ caps) with
                 | exc c => rw [hy2] at hfx'; cases hfx'
                 | bad => rw [hy2] at hfx'; cases hfx'
                 | ok y =>
                   rw [hy2] at hfx'
                   simp only [R.bind_ok] at hfx'
                   cases hfx'
                   show tE X.K cl (fun _ _ _ => False) Φ G false elt _ H3 _
                   refine ⟨F3, _, S3, ?_⟩
                   rw [hy2]
                   intro F4 w H4 u5 gv
                   unfold Gives at gv
                   rw [if_neg Bool.false_ne_true] at gv
                   obtain ⟨F5, u6, sub5, rw'⟩ := gv.keep u5
                   have hq4 : H4 q = some (.lst ys) := u6.same _ _ hq3
                   have nF5 : ¬ F5 q := fun z => (u6.new q z).elim nF3 fun y => by rw [hq3] at y; cases y.1
                   have r4 : Reps X.K cl F5 H4 ds ys := r3.up u6
                   have pr : Pres F5 H4 (L2.upd H4 q (.lst (ys ++ [w]))) := Pres.upd nF5 (fun zs e => by rw [hq4] at e; cases e) (fun o u e => by rw [hq4] at e; cases e)
                   have u7 : Up F1 H1 F5 H4 := (u3'.trans u4).trans u6
                   refine ⟨ys, xs.length - (i + 1), hq4, ?_, by omega, rfl, hlt, hl2, hc2, F5, ys ++ [w], ds ++ [y], rest', ⟨fun b o e => ?_, u7.sub, fun a z => ?_⟩, nF5, aO, ?_, ?_, hrest, ?_⟩
                   · rw [r4.length]; exact Nat.lt_of_le_of_lt (Nat.le_trans hdl (Nat.le_of_lt hlt)) (Nat.lt_of_le_of_lt hlen (by decide))
                   · rw [aL (nq b o e)]; exact u7.same b o e
                   · rcases u7.new a z with y | ⟨y1, y2⟩
                     · exact .inl y
                     · refine .inr ⟨y1, ?_⟩
                       rw [aL (by rintro rfl; exact nF5 z)]; exact y2
                   · exact (r4.mono pr fun _ z => z).append (Reps.cons (rw'.mono pr fun _ z => z) Reps.nil)
                   · rw [List.length_append, List.length_singleton]; omega
                   · rw [hout, ← hcm]; simp
     · have hi' : i = xs.length := by omega
       subst hi'
       refine .inl ⟨W1.stop F' H' pH, ?_⟩
       have hr : rest = [] := by
         rw [List.drop_length] at hcm
         simp only [compM] at hcm
         cases hcm; rfl
       subst hr
       rw [List.append_nil] at hout
       subst hout
       refine hx F' (.ref q) H' (u1.trans u2) (Res.gives ?_)
       unfold Res
       rw [if_pos (by simp [isOwn])]
       exact ⟨q, rfl, u1.same.free hq, nF, ys, hqs, r2⟩
end
end L2.Snd
namespace L2.Snd
open PySem PySem.Spec PyProof.Rows L2 Py
section
variable {X : Cx} {cl : Nat → Addr} {XE : Nat → St → Hp → Prop} {YE : Nat → Hp → Prop} {Φ : Nat → List D → R D} {G : List D} {m fr : Bool}
theorem ok_comp {k : IterK} {its : List Ex} {caps : List Nat} {ntg : Nat} {cond : Option Tx} {elt : Ex} {g : TG} {tg iter e : Expr} {ifs : List Expr} {scope : Scope} {pos : Pos} {N' : List Str}
  (hc : X.calm = true) (hi : OkI X cl XE Φ G true k its tg iter) (Sc : CompSc X N' caps ntg scope) (hg : ∀ cl' C s H fp, OkG (cxComp X N' scope cl' C s H fp fun _ _ => False) cl (List.range ntg) g tg)
  (ht : ∀ cl' C s H fp, OkC (cxComp X N' scope cl' C s H fp fun _ _ => False) cl (fun _ _ _ => False) Φ G cond ifs) (he : ∀ cl' C s H fp, OkE (cxComp X N' scope cl' C s H fp fun _ _ => False) cl (fun _ _ _ => False) Φ G false elt e)
  (hs : ∀ x, foldedSetIterable iter X.env x = pure x) : OkE X cl XE Φ G m (.comp k its caps ntg cond elt) (.ListComp e [⟨tg, iter, ifs, 0⟩] scope pos) := by
 obtain ⟨wi, pi, hw⟩ := hi
 refine ⟨_, pe_comp (tc := tO X.K cl (fun _ _ _ => False) Φ G cond) (te := tE X.K cl (fun _ _ _ => False) Φ G false elt) hc pi Sc (fun cl' C s H fp => (hg cl' C s H fp).1) (fun cl' C s H fp => ht cl' C s H fp) (fun cl' C s H fp => (he cl' C s H fp).pe) hs, fun F σ δ H Q S h => ?_⟩
 exact fR (g := g) hw (fun F H σ v x ts Q h1 h2 h3 => (hg [] 0 X.s₀ X.H₀ []).2 F H σ v x ts Q (by rw [List.length_range]; exact h1) h2 h3) S h
theorem jP {k : IterK} {its : List Ex} {caps : List Nat} {ntg : Nat} {cond : Option Tx} {elt : Ex} {g : TG} {tg iter e : Expr} {ifs : List Expr} {scope : Scope} {pos py spos : Pos} {N' : List Str} {i : Nat} {y : Str} (hN : X.N.Nodup) (hy : X.N[i]? = some y) (hx : Loc X.env.scope y)
  (hf : X.fn y = true ∨ X.env.scope.names.lookup y = some .local) (hsw : swapsWith (.ListComp e [⟨tg, iter, ifs, 0⟩] scope pos) (some (.Name y py)) spos.line X.env = pure true)
  (hc : X.calm = true) (hi : OkI X cl XE Φ G true k its tg iter) (Sc : CompSc X N' caps ntg scope) (hg : ∀ cl' C s H fp, OkG (cxComp X N' scope cl' C s H fp fun _ _ => False) cl (List.range ntg) g tg)
  (ht : ∀ cl' C s H fp, OkC (cxComp X N' scope cl' C s H fp fun _ _ => False) cl (fun _ _ _ => False) Φ G cond ifs) (he : ∀ cl' C s H fp, OkE (cxComp X N' scope cl' C s H fp fun _ _ => False) cl (fun _ _ _ => False) Φ G false elt e)
  (hs : ∀ x, foldedSetIterable iter X.env x = pure x) : ∃ t, PS X (.Assign [.Name y py] (.ListComp e [⟨tg, iter, ifs, 0⟩] scope pos) spos) (tAsg t (gName i)) ∧
   ∀ F σ δ H Q, Sees X.K cl F H σ δ → Post X.K cl (fun c => XE c σ) false true F H Q (ev Φ G false (.comp k its caps ntg cond elt) δ) → t σ H Q := by
 obtain ⟨wi, pi, hw⟩ := hi
 refine ⟨_, jH (tc := tO X.K cl (fun _ _ _ => False) Φ G cond) (te := tE X.K cl (fun _ _ _ => False) Φ G false elt) hN hy hx hf hsw hc pi Sc (fun cl' C s H fp => (hg cl' C s H fp).1) (fun cl' C s H fp => ht cl' C s H fp) (fun cl' C s H fp => (he cl' C s H fp).pe) hs, fun F σ δ H Q S h => ?_⟩
 exact fR (g := g) hw (fun F H σ v x ts Q h1 h2 h3 => (hg [] 0 X.s₀ X.H₀ []).2 F H σ v x ts Q (by rw [List.length_range]; exact h1) h2 h3) S h
structure Fit (K : PySem.W.Frag) (cl : Nat → Addr) (F₀ : Addr → Prop) (H₀ : Hp) (F : Addr → Prop) (H : Hp) (σ : St) (δ : Sto) : Prop where
 sees : Sees K cl F H σ δ
 up : Up F₀ H₀ F H
 new : ∀ (i : Nat) d a, δ[i]? = some (some (true, d)) → σ[i]? = some (some (.ref a)) → H₀ a = none
 ds : ∀ (i j : Nat) d e a, i ≠ j → δ[i]? = some (some (true, d)) → δ[j]? = some (some (true, e)) → σ[i]? = some (some (.ref a)) → σ[j]? ≠ some (some (.ref a))
section
variable {F₀ F F' : Addr → Prop} {H₀ H H' : Hp} {σ σ' : St} {δ δ' : Sto} {K : PySem.W.Frag}
theorem Fit.to (f : Fit K cl F₀ H₀ F H σ δ) (u : Up F H F' H') : Fit K cl F₀ H₀ F' H' σ δ := ⟨f.sees.up u, f.up.trans u, f.new, f.ds⟩
theorem Fit.frz1 (f : Fit K cl F₀ H₀ F H σ δ) (i : Nat) : ∃ F', (∀ a, F a → F' a) ∧ Fit K cl F₀ H₀ F' H σ (frz1 δ i) := by
 unfold Py.frz1
 split
 ·rename_i xs e
  obtain ⟨a, h1, h2, h3⟩ := f.sees.ow i _ e
  obtain ⟨vs, e1, r1⟩ := id h3
  have hn := f.new i _ a e h1
  have hi : i < δ.length := by
   by_cases hc : i < δ.length
   ·exact hc
   ·rw [List.getElem?_eq_none (by omega)] at e; cases e
  have sub : ∀ b, F b → addF F a b := fun b z => .inl z
  have pr : Pres F H H := Pres.of_same (Same.refl H)
  have other : ∀ j, j ≠ i → (δ.set i (some (false, .lst xs)))[j]? = δ[j]? := fun j hj => List.getElem?_set_ne (Ne.symm hj)
  have here : (δ.set i (some (false, .lst xs)))[i]? = some (some (false, .lst xs)) := by simp [List.getElem?_set_self hi]
  have notown : ∀ d, (δ.set i (some (false, .lst xs)))[i]? ≠ some (some (true, d)) := fun d z => by rw [here] at z; cases z
  refine ⟨addF F a, sub, ⟨by rw [List.length_set]; exact f.sees.len, fun b z => z.elim (f.sees.trk b) fun y => (by rw [y, e1]; exact Option.some_ne_none _), fun j d z => ?_, fun j d z => ?_⟩, ⟨f.up.same, fun b z => .inl (f.up.sub b z), fun b z => z.elim (f.up.new b) fun y => .inr ?_⟩, fun j d b z w => ?_, fun j k d d' b hjk z z' w => ?_⟩
  ·by_cases hj : j = i
   ·subst hj
    rw [here] at z
    cases z
    refine ⟨.ref a, h1, ?_⟩
    simp only [Rep]
    exact ⟨a, vs, rfl, .inr rfl, e1, r1.mono pr sub⟩
   ·rw [other j hj] at z
    obtain ⟨v, q1, q2⟩ := f.sees.sh j d z
    exact ⟨v, q1, q2.mono pr sub⟩
  ·have hj : j ≠ i := by rintro rfl; exact notown d z
   rw [other j hj] at z
   obtain ⟨b, q1, q2, q3⟩ := f.sees.ow j d z
   refine ⟨b, q1, fun y => y.elim q2 fun y => ?_, q3.mono pr sub rfl⟩
   subst y
   exact f.ds i j _ d b (Ne.symm hj) e z h1 q1
  ·rw [y]; exact ⟨hn, by rw [e1]; exact Option.some_ne_none _⟩
  ·have hj : j ≠ i := by rintro rfl; exact notown d z
   rw [other j hj] at z
   exact f.new j d b z w
  ·have hj : j ≠ i := by rintro rfl; exact notown d z
   have hk : k ≠ i := by rintro rfl; exact notown d' z'
   rw [other j hj] at z
   rw [other k hk] at z'
   exact f.ds j k d d' b hjk z z' w
 ·exact ⟨F, fun _ z => z, f⟩
theorem Fit.frz : ∀ (is : List Nat) {F : Addr → Prop} {δ : Sto}, Fit K cl F₀ H₀ F H σ δ → ∃ F', (∀ a, F a → F' a) ∧ Fit K cl F₀ H₀ F' H σ (frz is δ)
 | [], F, δ, f => ⟨F, fun _ z => z, f⟩
 | i :: is, F, δ, f => by
  obtain ⟨F1, s1, f1⟩ := f.frz1 i
  obtain ⟨F2, s2, f2⟩ := Fit.frz is f1
  exact ⟨F2, fun a z => s2 a (s1 a z), f2⟩
theorem Fit.set (f : Fit K cl F₀ H₀ F H σ δ) (i : Nat) {d : D} {v : V} (r : Rep K cl F H d v) : Fit K cl F₀ H₀ F H (σ.set i (some v)) (δ.set i (some (false, d))) := by
 have hl := f.sees.len
 have oσ : ∀ j, j ≠ i → (σ.set i (some v))[j]? = σ[j]? := fun j hj => List.getElem?_set_ne (Ne.symm hj)
 have oδ : ∀ j, j ≠ i → (δ.set i (some (false, d)))[j]? = δ[j]? := fun j hj => List.getElem?_set_ne (Ne.symm hj)
 have here : ∀ o, (δ.set i (some (false, d)))[i]? = some o → o = some (false, d) ∧ (σ.set i (some v))[i]? = some (some v) := fun o z => by
  by_cases hi : i < δ.length
  ·rw [List.getElem?_set_self hi] at z
   exact ⟨(Option.some.inj z).symm, List.getElem?_set_self (by rw [hl]; exact hi)⟩
  ·rw [List.getElem?_eq_none (by simpa using hi)] at z; cases z
 have notown : ∀ e, (δ.set i (some (false, d)))[i]? ≠ some (some (true, e)) := fun e z => by have := (here _ z).1; cases this
 refine ⟨⟨by simp [hl], f.sees.trk, fun j e z => ?_, fun j e z => ?_⟩, f.up, fun j e b z w => ?_, fun j k e e' b hjk z z' w => ?_⟩
 ·by_cases hj : j = i
  ·subst hj
   obtain ⟨q1, q2⟩ := here _ z
   cases q1
   exact ⟨v, q2, r⟩
  ·rw [oδ j hj] at z
   obtain ⟨u, q1, q2⟩ := f.sees.sh j e z
   exact ⟨u, by rw [oσ j hj]; exact q1, q2⟩
 ·have hj : j ≠ i := by rintro rfl; exact notown e z
  rw [oδ j hj] at z
  obtain ⟨b, q1, q2⟩ := f.sees.ow j e z
  exact ⟨b, by rw [oσ j hj]; exact q1, q2⟩
 ·have hj : j ≠ i := by rintro rfl; exact notown e z
  rw [oδ j hj] at z
  rw [oσ j hj] at w
  exact f.new j e b z w
 ·have hj : j ≠ i := by rintro rfl; exact notown e z
  have hk : k ≠ i := by rintro rfl; exact notown e' z'
  rw [oδ j hj] at z
  rw [oδ k hk] at z'
  rw [oσ j hj] at w
  rw [oσ k hk]
  exact f.ds j k e e' b hjk z z' w
theorem Fit.own (f : Fit K cl F₀ H₀ F H σ δ) (i : Nat) {d : D} {p : Addr} (u : Up F H F' H') (hp : H p = none) (nF : ¬ F' p) (o : Own K cl F' H' d p) : Fit K cl F₀ H₀ F' H' (σ.set i (some (.ref p))) (δ.set i (some (true, d))) := by
 have f' := f.to u
 have hl := f.sees.len
 have oσ : ∀ j, j ≠ i → (σ.set i (some (V.ref p)))[j]? = σ[j]? := fun j hj => List.getElem?_set_ne (Ne.symm hj)
 have oδ : ∀ j, j ≠ i → (δ.set i (some (true, d)))[j]? = δ[j]? := fun j hj => List.getElem?_set_ne (Ne.symm hj)
 have here : ∀ o, (δ.set i (some (true, d)))[i]? = some o → o = some (true, d) ∧ (σ.set i (some (V.ref p)))[i]? = some (some (V.ref p)) := fun o z => by
  by_cases hi : i < δ.length
  ·rw [List.getElem?_set_self hi] at z
   exact ⟨(Option.some.inj z).symm, List.getElem?_set_self (by rw [hl]; exact hi)⟩
  ·rw [List.getElem?_eq_none (by simpa using hi)] at z; cases z
 have old : ∀ (j : Nat) e b, δ[j]? = some (some (true, e)) → σ[j]? = some (some (V.ref b)) → b ≠ p := fun j e b z w y => by
  obtain ⟨b', q1, q2, q3⟩ := f.sees.ow j e z
  rw [w] at q1
  have : b = b' := by simpa using q1
  subst this
  rw [y] at q3
  exact q3.some hp
 refine ⟨⟨by simp [hl], f'.sees.trk, fun j e z => ?_, fun j e z => ?_⟩, f'.up, fun j e b z w => ?_, fun j k e e' b hjk z z' w => ?_⟩
 ·have hj : j ≠ i := by rintro rfl; have := (here _ z).1; cases this
  rw [oδ j hj] at z
  obtain ⟨v, q1, q2⟩ := f'.sees.sh j e z
  exact ⟨v, by rw [oσ j hj]; exact q1, q2⟩
 ·by_cases hj : j = i
  ·subst hj
   obtain ⟨q1, q2⟩ := here _ z
   cases q1
   exact ⟨p, q2, nF, o⟩
  ·rw [oδ j hj] at z
   obtain ⟨b, q1, q2⟩ := f'.sees.ow j e z
   exact ⟨b, by rw [oσ j hj]; exact q1, q2⟩
 ·by_cases hj : j = i
  ·subst hj
   obtain ⟨q1, q2⟩ := here _ z
   rw [q2] at w
   have : p = b := by simpa using w
   subst this
   exact f.up.same.free hp
  ·rw [oδ j hj] at z
   rw [oσ j hj] at w
   exact f.new j e b z w
 ·by_cases hj : j = i
  ·subst hj
   obtain ⟨q1, q2⟩ := here _ z
   rw [q2] at w
   have : p = b := by simpa using w
   subst this
   rw [oδ k (Ne.symm hjk)] at z'
   rw [oσ k (Ne.symm hjk)]
   exact fun y => old k e' p z' y rfl
  ·rw [oδ j hj] at z
   rw [oσ j hj] at w
   by_cases hk : k = i
   ·subst hk
    obtain ⟨q1, q2⟩ := here _ z'
    rw [q2]
    intro y
    have : p = b := by simpa using y
    exact old j e b z w this.symm
   ·rw [oδ k hk] at z'
    rw [oσ k hk]
    exact f.ds j k e e' b hjk z z' w
theorem Fit.write (f : Fit K cl F₀ H₀ F H σ δ) (i : Nat) {d d' : D} {p : Addr} {o : HO} (e : δ[i]? = some (some (true, d))) (hp : σ[i]? = some (some (.ref p))) (hd : (∃ vs, o = .lst vs) ∨ ∃ kvs, o = .dK kvs) (ho : Own K cl F (L2.upd H p o) d' p) :
  Fit K cl F₀ H₀ F (L2.upd H p o) σ (δ.set i (some (true, d'))) := by
 obtain ⟨p', q1, q2, q3⟩ := f.sees.ow i d e
 rw [hp] at q1
 have : p = p' := by simpa using q1
 subst this
 have hi : i < δ.length := by
  by_cases hc : i < δ.length
  ·exact hc
  ·rw [List.getElem?_eq_none (by omega)] at e; cases e
 have pr : Pres F H (L2.upd H p o) := by
  refine Pres.upd q2 (fun xs z => ?_) fun o' u z => ?_
  ·rcases q3.at with ⟨_, y⟩ | ⟨_, y⟩ <;> (rw [y] at z; cases z)
  ·rcases q3.at with ⟨_, y⟩ | ⟨_, y⟩ <;> (rw [y] at z; cases z)
 have h0 := f.new i d p e hp
 have oδ : ∀ j, j ≠ i → (δ.set i (some (true, d')))[j]? = δ[j]? := fun j hj => List.getElem?_set_ne (Ne.symm hj)
 have here : (δ.set i (some (true, d')))[i]? = some (some (true, d')) := List.getElem?_set_self hi
 have nn : ∀ b, (L2.upd H p o b) = none → H b = none := fun b z => by
  by_cases hb : b = p
  ·subst hb; rw [aO] at z; cases z
  ·rw [aL hb] at z; exact z
 refine ⟨⟨by simp [f.sees.len], fun b z y => f.sees.trk b z (nn b y), fun j x z => ?_, fun j x z => ?_⟩, ⟨fun b u z => ?_, f.up.sub, fun b z => ?_⟩, fun j x b z w => ?_, fun j k x x' b hjk z z' w => ?_⟩
 ·have hj : j ≠ i := by rintro rfl; rw [here] at z; cases z
  rw [oδ j hj] at z
  obtain ⟨v, r1, r2⟩ := f.sees.sh j x z
  exact ⟨v, r1, r2.mono pr fun _ y => y⟩
 ·by_cases hj : j = i
  ·subst hj
   rw [here] at z
   cases z
   exact ⟨p, hp, q2, ho⟩
  ·rw [oδ j hj] at z
   obtain ⟨b, r1, r2, r3⟩ := f.sees.ow j x z
   refine ⟨b, r1, r2, r3.mono pr (fun _ y => y) (aL ?_)⟩
   rintro rfl
   exact f.ds i j d x b (Ne.symm hj) e z hp r1
 ·rw [aL (aT z h0)]
  exact f.up.same b u z
 ·rcases f.up.new b z with y | ⟨y1, y2⟩
  ·exact .inl y
  ·exact .inr ⟨y1, fun w => y2 (nn b w)⟩
 ·by_cases hj : j = i
  ·subst hj
   rw [hp] at w
   have : p = b := by simpa using w
   subst this
   exact h0
  ·rw [oδ j hj] at z
   exact f.new j x b z w
 ·by_cases hj : j = i
  ·subst hj
   rw [oδ k (Ne.symm hjk)] at z'
   exact f.ds j k d x' b hjk e z' w
  ·rw [oδ j hj] at z
   by_cases hk : k = i
   ·subst hk
    exact f.ds j k x d b hjk z e w
   ·rw [oδ k hk] at z'
    exact f.ds j k x x' b hjk z z' w
end
end
end L2.Snd
namespace L2.Snd
open PySem PySem.Spec PyProof.Rows L2 Py
def PostS (K : PySem.W.Frag) (cl : Nat → Addr) (XE : Nat → St → Hp → Prop) (F₀ : Addr → Prop) (H₀ : Hp) (D : Ends) : Out → Prop
 | .nx δ => ∀ F σ H, Fit K cl F₀ H₀ F H σ δ → D.nx σ H
 | .bk δ => ∀ F σ H, Fit K cl F₀ H₀ F H σ δ → D.bk σ H
 | .ct δ => ∀ F σ H, Fit K cl F₀ H₀ F H σ δ → D.ct σ H
 | .rt d => ∀ F v H, Up F₀ H₀ F H → Rep K cl F H d v → D.rt v H
 | .xc c δ => ∀ F σ H, Fit K cl F₀ H₀ F H σ δ → XE c σ H
 | .bad => False
section
variable (X : Cx) (cl : Nat → Addr) (XE : Nat → St → Hp → Prop) (Φ : Nat → List D → R D) (G : List D) (n : Nat)
def OkS (sm : Sm) (st : Stmt) : Prop := ∃ t, PS X st t ∧ ∀ F₀ H₀ F σ δ H D, Fit X.K cl F₀ H₀ F H σ δ → PostS X.K cl XE F₀ H₀ D (xec Φ G n sm δ) → t D σ H
def OkSs (sms : List Sm) (sts : List Stmt) : Prop := ∃ t, PSs X sts t ∧ ∀ F₀ H₀ F σ δ H D, Fit X.K cl F₀ H₀ F H σ δ → PostS X.K cl XE F₀ H₀ D (xecs Φ G n sms δ) → t D σ H
end
section
variable {X : Cx} {cl : Nat → Addr} {XE : Nat → St → Hp → Prop} {Φ : Nat → List D → R D} {G : List D} {n : Nat} {K : PySem.W.Frag} {F₀ F F' : Addr → Prop} {H₀ H H' : Hp} {σ : St} {δ : Sto} {W : Ends}
theorem aE : OkSs X cl XE Φ G n [] [] := ⟨_, pss_nil, fun F₀ H₀ F σ δ H D f h => by simp only [xecs] at h; exact h F σ H f⟩
theorem aB {sm : Sm} {sms : List Sm} {st : Stmt} {sts : List Stmt} (h1 : OkS X cl XE Φ G n sm st) (h2 : OkSs X cl XE Φ G n sms sts) : OkSs X cl XE Φ G n (sm :: sms) (st :: sts) := by
 obtain ⟨t, p1, i1⟩ := h1
 obtain ⟨u, p2, i2⟩ := h2
 refine ⟨_, fE p1 p2, fun F₀ H₀ F σ δ H D f h => ?_⟩
 simp only [xecs] at h
 refine i1 F₀ H₀ F σ δ H _ f ?_
 cases e : xec Φ G n sm δ with
 | nx δ' => rw [e] at h; exact fun F' σ' H' f' => i2 F₀ H₀ F' σ' δ' H' D f' h
 | bk δ' => rw [e] at h; exact h
 | ct δ' => rw [e] at h; exact h
 | rt d => rw [e] at h; exact h
 | xc c δ' => rw [e] at h; exact h
 | bad => rw [e] at h; exact h
theorem PostS.of_ok {α : Type} {r : R α} {k : α → Out} {P : α → Prop} (h : PostS K cl XE F₀ H₀ W (Out.of r δ k)) (hk : ∀ a, r = .ok a → PostS K cl XE F₀ H₀ W (k a) → P a) : Meet r P (fun c => ∀ F σ H, Fit K cl F₀ H₀ F H σ δ → XE c σ H) := by
 cases r with
 | ok a => exact hk a rfl h
 | exc c => exact h
 | bad => exact h
theorem eN {ex : Ex} {e : Expr} {t : TE} {m : Bool} {k : D → Out} {Q : VK} (ie : ∀ F σ δ H Q, Sees X.K cl F H σ δ → Post X.K cl (fun c => XE c σ) m (frsh ex) F H Q (ev Φ G m ex δ) → t σ H Q) (f : Fit X.K cl F₀ H₀ F H σ δ)
  (h : PostS X.K cl XE F₀ H₀ W (Out.of (ev Φ G m ex δ) δ k)) (hQ : ∀ d F' v H', Up F H F' H' → Gives X.K cl m (frsh ex) F' H H' d v → PostS X.K cl XE F₀ H₀ W (k d) → Q v H') : t σ H Q := by
 refine ie F σ δ H Q f.sees (Meet.mono (h.of_ok (P := fun d => PostS X.K cl XE F₀ H₀ W (k d)) fun a _ z => z) (fun d _ z F' v H' u g => hQ d F' v H' u g z) fun c z F' H' u => z F' σ H' (f.to u))
theorem oks_asg {i : Nat} {x : Str} {ex : Ex} {e : Expr} {pos pos' : Pos} (hN : X.N.Nodup) (hi : X.N[i]? = some x) (hx : Loc X.env.scope x) (hf : X.fn x = true ∨ X.env.scope.names.lookup x = some .local) (hs : swapsWith e (some (.Name x pos')) pos.line X.env = pure false)
  (ie : OkE X cl XE Φ G false ex e) : OkS X cl XE Φ G n (.asg i ex) (.Assign [.Name x pos'] e pos) := by
 obtain ⟨t, pe, ie⟩ := ie
 refine ⟨_, kE hN hi hx pe hs hf, fun F₀ H₀ F σ δ H D f h => ?_⟩
 simp only [xec] at h
 obtain ⟨F1, s1, f1⟩ := f.frz (leaks false ex)
 refine eN (e := e) (m := false) ie f1 h fun d F' v H' u g z => ?_
 have g' : Res X.K cl (frsh ex) F' H H' d v := by unfold Gives at g; rw [if_neg Bool.false_ne_true] at g; exact g
 show D.nx (σ.set i (some v)) H'
 unfold Res at g'
 by_cases hc : (frsh ex && isOwn d) = true
 ·rw [if_pos hc] at g'
  obtain ⟨p, rfl, hp, nF, o⟩ := g'
  rw [hc] at z
  exact z F' _ H' (f1.own i u hp nF o)
 ·rw [if_neg hc] at g'
  rw [Bool.not_eq_true _ |>.mp hc] at z
  exact z F' _ H' ((f1.to u).set i g')
theorem eO {i : Nat} {x : Str} {ex : Ex} {e : Expr} {pos pos' : Pos} (hfr : frsh ex = true) (ie : ∃ t, PS X (.Assign [.Name x pos'] e pos) (tAsg t (gName i)) ∧ ∀ F σ δ H Q, Sees X.K cl F H σ δ → Post X.K cl (fun c => XE c σ) false true F H Q (ev Φ G false ex δ) → t σ H Q) :
  OkS X cl XE Φ G n (.asg i ex) (.Assign [.Name x pos'] e pos) := by
 obtain ⟨t, pe, ie⟩ := ie
 refine ⟨_, pe, fun F₀ H₀ F σ δ H D f h => ?_⟩
 simp only [xec] at h
 obtain ⟨F1, s1, f1⟩ := f.frz (leaks false ex)
 refine eN (ex := ex) (e := e) (m := false) (fun F σ δ H Q S z => ie F σ δ H Q S (by rw [hfr] at z; exact z)) f1 h fun d F' v H' u g z => ?_
 have g' : Res X.K cl (frsh ex) F' H H' d v := by unfold Gives at g; rw [if_neg Bool.false_ne_true] at g; exact g
 show D.nx (σ.set i (some v)) H'
 unfold Res at g'
 by_cases hc : (frsh ex && isOwn d) = true
 ·rw [if_pos hc] at g'
  obtain ⟨p, rfl, hp, nF, o⟩ := g'
  rw [hc] at z
  exact z F' _ H' (f1.own i u hp nF o)
 ·rw [if_neg hc] at g'
  rw [Bool.not_eq_true _ |>.mp hc] at z
  exact z F' _ H' ((f1.to u).set i g')
theorem oks_new {i : Nat} {x : Str} {pos pos' p : Pos} (hN : X.N.Nodup) (hi : X.N[i]? = some x) (hx : Loc X.env.scope x) (hf : X.fn x = true ∨ X.env.scope.names.lookup x = some .local) (hs : swapsWith (.Dict [] [] p) (some (.Name x pos')) pos.line X.env = pure false) :
  OkS X cl XE Φ G n (.new i) (.Assign [.Name x pos'] (.Dict [] [] p) pos) := by
 refine ⟨_, kE hN hi hx oP hs hf, fun F₀ H₀ F σ δ H D f h => ?_⟩
 simp only [xec] at h
 intro a ha
 exact h F _ _ (f.own i (d := .dic [] []) (Up.alloc ha) ha (f.sees.trk.fresh ha) ⟨[], aO, rfl, Reps.nil⟩)
theorem aH {ex : Ex} {e : Expr} {pos : Pos} (ie : OkE X cl XE Φ G false ex e) : OkS X cl XE Φ G n (.ret ex) (.Return (some e) pos) := by
 obtain ⟨t, pe, ie⟩ := ie
 refine ⟨_, ps_ret pe, fun F₀ H₀ F σ δ H D f h => ?_⟩
 simp only [xec] at h
 obtain ⟨F1, s1, f1⟩ := f.frz (leaks false ex)
 refine eN (e := e) (m := false) ie f1 h fun d F' v H' u g z => ?_
 have g' : Res X.K cl (frsh ex) F' H H' d v := by unfold Gives at g; rw [if_neg Bool.false_ne_true] at g; exact g
 obtain ⟨F2, u2, _, rp⟩ := g'.keep u
 exact z F2 v H' (f1.up.trans u2) rp
theorem aU {tx : Tx} {c : Expr} {sa sb : List Sm} {a b : List Stmt} {pos : Pos} (ic : OkT X cl XE Φ G tx c) (ia : OkSs X cl XE Φ G n sa a) (ib : OkSs X cl XE Φ G n sb b) : OkS X cl XE Φ G n (.ite tx sa sb) (.If c a b pos) := by
 obtain ⟨tc, pc, ic⟩ := ic
 obtain ⟨ta, pa, ia⟩ := ia
 obtain ⟨tb, pb, ib⟩ := ib
 refine ⟨_, ps_if pc pa pb, fun F₀ H₀ F σ δ H D f h => ?_⟩
 simp only [xec] at h
 obtain ⟨F1, s1, f1⟩ := f.frz (leaksT tx)
 refine ic F1 σ _ H _ f1.sees (Meet.mono (h.of_ok (P := fun t => PostS X.K cl XE F₀ H₀ D (if t then xecs Φ G n sa (Py.frz (leaksT tx) δ) else xecs Φ G n sb (Py.frz (leaksT tx) δ))) fun a _ z => z) (fun t _ z F' H' u => ?_) fun c z F' H' u => z F' σ H' (f1.to u))
 cases t with
 | true => rw [if_pos rfl] at z ⊢; exact ia F₀ H₀ F' σ _ H' D (f1.to u) z
 | false => rw [if_neg Bool.false_ne_true] at z ⊢; exact ib F₀ H₀ F' σ _ H' D (f1.to u) z
theorem nD {c : Nat} {st : Stmt} (h : PS X st (tRaise XE c)) : OkS X cl XE Φ G n (.rai c) st := ⟨_, h, fun F₀ H₀ F σ δ H D f z => by simp only [xec] at z; exact z F σ H f⟩
theorem oks_app {i : Nat} {x : Str} {ex : Ex} {e : Expr} {p apos cpos pos : Pos} (hN : X.N[i]? = some x) (hv : Vis X.env.scope x) (hd : (x == ("__debug__" : Str)) = false) (hcd : (x == ("__classdict__" : Str)) = false)
  (hbase : attributeBase (.Name x p) "append" X.env (eval (.Name x p) X.env) = eval (.Name x p) X.env) (hline : (apos.endLine == cpos.line) = true) (hs : starEach [e] X.env = [(false, eval e X.env)])
  (hsw : swapsWith (.Call (.Attribute (.Name x p) "append" apos) [e] [] cpos) none pos.line X.env = pure false)
  (ie : OkE X cl XE Φ G false ex e) : OkS X cl XE Φ G n (.app i ex) (.Expr (.Call (.Attribute (.Name x p) "append" apos) [e] [] cpos) pos) := by
 obtain ⟨t, pe, ie⟩ := ie
 have hs' : starEach (e :: []) X.env = (false, eval e X.env) :: starEach [] X.env := hs
 refine ⟨_, ps_expr (pe_bm PySem.F.plainAttrs_list PySem.F.slot_list_append PySem.F.type_list_append eA (fD hN hv hd hcd) (pa_cons pe pa_nil hs') hbase (by rw [hs]; rfl) hline hs' rfl) hsw, fun F₀ H₀ F σ δ H D f h => ?_⟩
 simp only [xec] at h
 obtain ⟨F1, s1, f1⟩ := f.frz (leaks false ex)
 generalize hδ : Py.frz (leaks false ex) δ = δ1 at h f1
 by_cases ho : ownL δ1 i = true
 ·rw [if_pos ho] at h
  obtain ⟨xs, e0⟩ : ∃ xs, δ1[i]? = some (some (true, .lst xs)) := by
   unfold ownL at ho
   split at ho
   ·rename_i xs e; exact ⟨xs, e⟩
   ·cases ho
  obtain ⟨a, q1, q2, q3⟩ := f1.sees.ow i _ e0
  obtain ⟨vs0, w1, w2⟩ := id q3
  refine ⟨.ref a, q1, .inl ⟨rfl, vs0, SqL.of w1⟩, ?_⟩
  refine eN (e := e) (m := false) ie f1 h fun d F' v H' u g z => ?_
  have g' : Res X.K cl (frsh ex) F' H H' d v := by unfold Gives at g; rw [if_neg Bool.false_ne_true] at g; exact g
  obtain ⟨F2, u2, sub2, rp⟩ := g'.keep u
  have f2 := f1.to u2
  obtain ⟨a', q1', q2', vs, w1, w2⟩ := f2.sees.ow i _ e0
  rw [q1] at q1'
  have : a = a' := by simpa using q1'
  subst this
  simp only [appD, e0] at z
  by_cases hl : xs.length < LIM
  ·rw [if_pos hl] at z
   refine ⟨a, vs, v, rfl, rfl, w1, by rw [w2.length]; exact Nat.lt_of_lt_of_le hl (by decide), ?_⟩
   have pr : Pres F2 H' (L2.upd H' a (.lst (vs ++ [v]))) := Pres.upd q2' (fun ys y => by rw [w1] at y; cases y) fun o u y => by rw [w1] at y; cases y
   exact z F2 σ _ (f2.write i e0 q1 (.inl ⟨_, rfl⟩) ⟨_, aO, (w2.mono pr fun _ y => y).append (Reps.cons (rp.mono pr fun _ y => y) Reps.nil)⟩)
  ·rw [if_neg hl] at z; exact z.elim
 ·rw [if_neg ho] at h; exact h.elim
end
end L2.Snd
namespace L2.Snd
open PySem PySem.Spec PyProof.Rows L2 Py
section
variable {X : Cx} {cl : Nat → Addr} {XE : Nat → St → Hp → Prop} {Φ : Nat → List D → R D} {G : List D} {n : Nat} {K : PySem.W.Frag} {F₀ F F' : Addr → Prop} {H₀ H H' : Hp} {σ : St} {δ : Sto} {W : Ends}
theorem pK {n : Nat} {j : Int} {k : Nat} (h : ixD n j = some k) : ixN n j = some k := by
 unfold ixD at h
 unfold ixN
 by_cases h0 : 0 ≤ j
 ·rw [if_pos h0] at h ⊢
  exact h
 ·rw [if_neg h0] at h ⊢
  exact h
theorem oks_put {i : Nat} {x : Str} {ex ix : Ex} {e ie : Expr} {p ps pos : Pos} (hN : X.N[i]? = some x) (hv : Vis X.env.scope x) (hd : (x == ("__debug__" : Str)) = false) (hcd : (x == ("__classdict__" : Str)) = false)
  (hsw : swapsWithSole [.Subscript (.Name x p) ie ps] e pos.line X.env = pure false) (hw : swappedStores [.Subscript (.Name x p) ie ps] e X.env = pure none) (h1 : (assignEach [.Subscript (.Name x p) ie ps] X.env).map (·.2) = [assign (.Subscript (.Name x p) ie ps) X.env])
  (ha : ∀ v, assign (.Subscript (.Name x p) ie ps) X.env v = (do
   let ov ← holding [v] (eval (.Name x p) X.env)
   let iv ← holding [v, ov] (eval ie X.env)
   standAt ps
   holding [v, ov, iv] (setItem ov iv v)
   release [v, ov, iv] []))
  (i1 : OkE X cl XE Φ G false ex e) (i2 : OkE X cl XE Φ G true ix ie) : OkS X cl XE Φ G n (.put i ix ex) (.Assign [.Subscript (.Name x p) ie ps] e pos) := by
 obtain ⟨t, pe, i1⟩ := i1
 obtain ⟨u, pi, i2⟩ := i2
 refine ⟨_, oF pe (oE (fD hN hv hd hcd) pi jG ha) hsw hw h1, fun F₀ H₀ F σ δ H W f h => ?_⟩
 simp only [xec] at h
 obtain ⟨F1, s1, f1⟩ := f.frz (leaks false ex ++ leaks true ix)
 generalize hδ : Py.frz (leaks false ex ++ leaks true ix) δ = δ1 at h f1
 by_cases ho : ownL δ1 i = true
 ·rw [if_pos ho] at h
  obtain ⟨xs, e0⟩ : ∃ xs, δ1[i]? = some (some (true, .lst xs)) := by
   unfold ownL at ho
   split at ho
   ·rename_i xs e; exact ⟨xs, e⟩
   ·cases ho
  refine eN (e := e) (m := false) i1 f1 h fun d F' v H' uu g z => ?_
  have g' : Res X.K cl (frsh ex) F' H H' d v := by unfold Gives at g; rw [if_neg Bool.false_ne_true] at g; exact g
  obtain ⟨F2, u2, sub2, rp⟩ := g'.keep uu
  have f2 := f1.to u2
  obtain ⟨a, q1, q2, vs0, w01, w02⟩ := f2.sees.ow i _ e0
  refine ⟨.ref a, q1, ?_⟩
  refine eN (e := ie) (m := true) i2 f2 z fun k F3 y H3 u3 g3 z3 => ?_
  have f3 := f2.to u3
  obtain ⟨a', q1', q2', vs, w1, w2⟩ := f3.sees.ow i _ e0
  rw [q1] at q1'
  have : a = a' := by simpa using q1'
  subst this
  cases k with
  | int j =>
   simp only [putD, e0] at z3
   cases hj : ixD xs.length j with
   | none => rw [hj] at z3; exact z3.elim
   | some m =>
    rw [hj] at z3
    rw [g3.got.int]
    refine ⟨a, vs, j, m, rfl, rfl, w1, pK (by rw [w2.length]; exact hj), ?_⟩
    have pr : Pres F3 H3 (L2.upd H3 a (.lst (vs.set m v))) := Pres.upd q2' (fun ys y => by rw [w1] at y; cases y) fun o u y => by rw [w1] at y; cases y
    exact z3 F3 σ _ (f3.write i e0 q1 (.inl ⟨_, rfl⟩) ⟨_, aO, (w2.mono pr fun _ y => y).set m ((rp.up u3).mono pr fun _ y => y)⟩)
  | _ => simp only [putD, e0] at z3 <;> exact z3.elim
 ·rw [if_neg ho] at h; exact h.elim
theorem putK_of {j : Int} {v : V} {d : D} (rv : Rep K cl F H d v) : ∀ {ks : List Int} {ds : List D} {kvs : List (Key × V)}, kvs.map (·.1) = ks.map Sum.inl → Reps K cl F H ds (kvs.map (·.2)) →
  (j ∈ ks → (putK kvs (Sum.inl j : Key) v).map (·.1) = ks.map Sum.inl ∧ Reps K cl F H (repD ks ds j d) ((putK kvs (Sum.inl j : Key) v).map (·.2))) ∧
  (j ∉ ks → (putK kvs (Sum.inl j : Key) v).map (·.1) = (ks ++ [j]).map Sum.inl ∧ Reps K cl F H (ds ++ [d]) ((putK kvs (Sum.inl j : Key) v).map (·.2))) := by
 intro ks ds kvs hk r
 have hany : (kvs.any fun kv => decide (kv.1 = (Sum.inl j : Key))) = decide (j ∈ ks) := by
  clear r
  induction kvs generalizing ks with
  | nil => cases ks with | nil => rfl | cons _ _ => simp at hk
  | cons kv kvs ih =>
   cases ks with
   | nil => simp at hk
   | cons k ks =>
    simp only [List.map_cons, List.cons.injEq] at hk
    rw [List.any_cons, ih hk.2, hk.1]
    by_cases e : k = j
    ·subst e; simp
    ·have e' : ¬ (Sum.inl k : Key) = Sum.inl j := fun z => e (Sum.inl.inj z)
     simp [e, e', Ne.symm e]
 refine ⟨fun hj => ?_, fun hj => ?_⟩
 ·unfold putK
  rw [hany, if_pos (decide_eq_true hj)]
  clear hany hj
  induction kvs generalizing ks ds with
  | nil =>
   cases ks with
   | nil => cases ds with | nil => exact ⟨rfl, Reps.nil⟩ | cons _ _ => exact ⟨rfl, Reps.nil⟩
   | cons _ _ => simp at hk
  | cons kv kvs ih =>
   cases ks with
   | nil => simp at hk
   | cons k ks =>
    simp only [List.map_cons, List.cons.injEq] at hk
    cases ds with
    | nil => have := r.length; simp at this
    | cons d0 ds =>
     obtain ⟨v0, r0, z, a1, a2⟩ := r.cons_inv
     have z' : kv.2 = v0 ∧ kvs.map (·.2) = r0 := by simpa using z
     obtain ⟨rfl, rfl⟩ := z'
     obtain ⟨ih1, ih2⟩ := ih hk.2 a2
     by_cases e : k = j
     ·have e' : kv.1 = (Sum.inl j : Key) := by rw [hk.1, e]
      simp only [List.map_cons, if_pos e', repD, if_pos e]
      exact ⟨by rw [ih1, hk.1], Reps.cons rv ih2⟩
     ·have e' : ¬ kv.1 = (Sum.inl j : Key) := by rw [hk.1]; exact fun z => e (Sum.inl.inj z)
      simp only [List.map_cons, if_neg e', repD, if_neg e]
      exact ⟨by rw [ih1, hk.1], Reps.cons a1 ih2⟩
 ·unfold putK
  rw [hany, if_neg (by simpa using hj)]
  rw [List.map_append, List.map_append, List.map_append, hk]
  exact ⟨rfl, r.append (Reps.cons rv Reps.nil)⟩
theorem pL {i : Nat} {x : Str} {ex ix : Ex} {e ie : Expr} {p ps pos : Pos} (hu : X.A.units + 1 < cLine) (hN : X.N[i]? = some x) (hv : Vis X.env.scope x) (hd : (x == ("__debug__" : Str)) = false) (hcd : (x == ("__classdict__" : Str)) = false)
  (hs : swapsWith e (some (.Subscript (.Name x p) ie ps)) pos.line X.env = pure false) (i1 : OkE X cl XE Φ G false ex e) (i2 : OkE X cl XE Φ G true ix ie) : OkS X cl XE Φ G n (.dput i ix ex) (.Assign [.Subscript (.Name x p) ie ps] e pos) := by
 obtain ⟨t, pe, i1⟩ := i1
 obtain ⟨u, pi, i2⟩ := i2
 refine ⟨_, ps_dput hu (fD hN hv hd hcd) pi pe hs, fun F₀ H₀ F σ δ H W f h => ?_⟩
 simp only [xec] at h
 obtain ⟨F1, s1, f1⟩ := f.frz (leaks false ex ++ leaks true ix)
 generalize hδ : Py.frz (leaks false ex ++ leaks true ix) δ = δ1 at h f1
 by_cases ho : ownM δ1 i = true
 ·rw [if_pos ho] at h
  obtain ⟨ks, ds, e0⟩ : ∃ ks ds, δ1[i]? = some (some (true, .dic ks ds)) := by
   unfold ownM at ho
   split at ho
   ·rename_i ks ds e; exact ⟨ks, ds, e⟩
   ·cases ho
  refine eN (e := e) (m := false) i1 f1 h fun d F' v H' uu g z => ?_
  have g' : Res X.K cl (frsh ex) F' H H' d v := by unfold Gives at g; rw [if_neg Bool.false_ne_true] at g; exact g
  obtain ⟨F2, u2, sub2, rp⟩ := g'.keep uu
  have f2 := f1.to u2
  obtain ⟨a, q1, q2, kv0, w01, w02, w03⟩ := f2.sees.ow i _ e0
  refine ⟨.ref a, q1, ?_⟩
  refine eN (e := ie) (m := true) i2 f2 z fun k F3 y H3 u3 g3 z3 => ?_
  have f3 := f2.to u3
  obtain ⟨a', q1', q2', kvs, w1, w2, w3⟩ := f3.sees.ow i _ e0
  rw [q1] at q1'
  have : a = a' := by simpa using q1'
  subst this
  cases k with
  | int j =>
   simp only [dputD, e0] at z3
   by_cases hl : ks.length < LIM
   ·rw [if_pos hl] at z3
    rw [g3.got.int]
    have hkl : kvs.length = ks.length := by have := congrArg List.length w2; simpa using this
    refine ⟨a, _, rfl, DPut.k (k := Sum.inl j) w1 (by rw [hkl]; exact Nat.lt_of_lt_of_le hl (by decide)), ?_⟩
    have pr : Pres F3 H3 (L2.upd H3 a (.dK (putK kvs (Sum.inl j) v))) := Pres.upd q2' (fun ys y => by rw [w1] at y; cases y) fun o u y => by rw [w1] at y; cases y
    have rv := (rp.up u3).mono (F' := F3) pr fun _ y => y
    have pk := putK_of (j := j) rv w2 (w3.mono (F' := F3) pr fun _ y => y)
    by_cases hj : j ∈ ks
    ·rw [if_pos hj] at z3
     exact z3 F3 σ _ (f3.write i e0 q1 (.inr ⟨_, rfl⟩) ⟨_, aO, (pk.1 hj).1, (pk.1 hj).2⟩)
    ·rw [if_neg hj] at z3
     exact z3 F3 σ _ (f3.write i e0 q1 (.inr ⟨_, rfl⟩) ⟨_, aO, (pk.2 hj).1, (pk.2 hj).2⟩)
   ·rw [if_neg hl] at z3; exact z3.elim
  | _ => simp only [dputD, e0] at z3 <;> exact z3.elim
 ·rw [if_neg ho] at h; exact h.elim
theorem Fit.rebase (f : Fit K cl F₀ H₀ F H σ δ) : ∃ Hm, Fit K cl F Hm F H σ δ ∧ ∀ F' H', Up F Hm F' H' → Up F₀ H₀ F' H' ∧ Pres F H H' ∧ (∀ a, F a → F' a) ∧ ∀ σ' δ', Fit K cl F Hm F' H' σ' δ' → Fit K cl F₀ H₀ F' H' σ' δ' := by
 classical
 let mine : Addr → Prop := fun a => ∃ (i : Nat) (d : D), δ[i]? = some (some (true, d)) ∧ σ[i]? = some (some (.ref a))
 let Hm : Hp := fun a => if mine a then none else H a
 have h1 : ∀ a, mine a → Hm a = none := fun a h => if_pos h
 have h2 : ∀ a, ¬ mine a → Hm a = H a := fun a h => if_neg h
 have sub : ∀ a o, Hm a = some o → H a = some o := fun a o e => by
  by_cases hm : mine a
  ·rw [h1 a hm] at e; cases e
  ·rw [h2 a hm] at e; exact e
 have oldN : ∀ a o, H₀ a = some o → ¬ mine a := fun a o e ⟨i, d, e1, e2⟩ => by rw [f.new i d a e1 e2] at e; cases e
 have old : ∀ a o, H₀ a = some o → Hm a = some o := fun a o e => by rw [h2 a (oldN a o e)]; exact f.up.same a o e
 have nF : ∀ a, F a → ¬ mine a := fun a fa ⟨i, d, e1, e2⟩ => by
  obtain ⟨a', q1, q2, _⟩ := f.sees.ow i d e1
  rw [e2] at q1
  have : a = a' := by simpa using q1
  subst this
  exact q2 fa
 have at' : ∀ a, mine a → (∃ vs, H a = some (.lst vs)) ∨ ∃ kvs, H a = some (.dK kvs) := fun a ⟨i, d, e1, e2⟩ => by
  obtain ⟨a', q1, q2, o⟩ := f.sees.ow i d e1
  rw [e2] at q1
  have : a = a' := by simpa using q1
  subst this
  exact o.at
 refine ⟨Hm, ⟨f.sees, ⟨sub, fun _ h => h, fun _ h => .inl h⟩, fun i d a e1 e2 => h1 a ⟨i, d, e1, e2⟩, f.ds⟩, fun F' H' u => ?_⟩
 have up : Up F₀ H₀ F' H' := by
  refine ⟨fun a o e => u.same a o (old a o e), fun a h => u.sub a (f.up.sub a h), fun a h => ?_⟩
  rcases u.new a h with z | ⟨z1, z2⟩
  ·rcases f.up.new a z with y | ⟨y1, y2⟩
   ·exact .inl y
   ·refine .inr ⟨y1, fun w => ?_⟩
    cases q : H a with
    | none => exact y2 q
    | some o =>
     have := u.same a o (by rw [h2 a (nF a z)]; exact q)
     rw [w] at this; cases this
  ·refine .inr ⟨?_, z2⟩
   cases q : H₀ a with
   | none => rfl
   | some o => rw [old a o q] at z1; cases z1
 refine ⟨up, ⟨fun a o fa e => u.same a o (by rw [h2 a (nF a fa)]; exact e), fun a xs e => u.same a _ (by rw [h2 a fun m => (at' a m).elim (fun ⟨_, z⟩ => by rw [e] at z; cases z) fun ⟨_, z⟩ => by rw [e] at z; cases z]; exact e),
  fun a o w e => u.same a _ (by rw [h2 a fun m => (at' a m).elim (fun ⟨_, z⟩ => by rw [e] at z; cases z) fun ⟨_, z⟩ => by rw [e] at z; cases z]; exact e)⟩, u.sub, fun σ' δ' g => ⟨g.sees, up, fun i d a e1 e2 => ?_, g.ds⟩⟩
 have z := g.new i d a e1 e2
 cases q : H₀ a with
 | none => rfl
 | some o => rw [old a o q] at z; cases z
theorem Fit.sets : ∀ (is : List Nat) {ds : List D} {vs : List V} {σ : St} {δ : Sto}, Fit K cl F₀ H₀ F H σ δ → Reps K cl F H ds vs → Fit K cl F₀ H₀ F H (setsV σ is vs) (sets δ is ds)
 | [], _, _, _, _, f, _ => by simpa [setsV, Py.sets] using f
 | i :: is, [], vs, _, _, f, r => by rw [r.nil_inv]; simpa [setsV, Py.sets] using f
 | i :: is, d :: ds, vs, σ, δ, f, r => by
  obtain ⟨v, r', rfl, h1, h2⟩ := r.cons_inv
  simp only [setsV, Py.sets]
  exact Fit.sets is (f.set i h1) h2
end
end L2.Snd
namespace L2.Snd
open PySem PySem.Spec PyProof.Rows L2 Py
section
variable {X : Cx} {cl : Nat → Addr} {XE : Nat → St → Hp → Prop} {Φ : Nat → List D → R D} {G : List D} {n : Nat} {K : PySem.W.Frag} {F₀ F F' : Addr → Prop} {H₀ H H' : Hp} {σ : St} {δ : Sto} {W : Ends}
theorem PS.nox {st : Stmt} {t : TS} (h : PS X.nox st t) : PS X st t := fun pins s σ H D I hw =>
 wpAny_mono (h pins s σ H D (I.wish _) hw) (fun _ _ q => q.unwish) fun _ _ z => False.elim z
theorem pM {k : IterK} {its : List Ex} {tgs : List Nat} {body : List Sm} {g : TG} {tg iter : Expr} {b : List Stmt} {pos : Pos} (hc : X.calm = true) (hi : OkI X.nox cl (fun _ _ _ => False) Φ G false k its tg iter) (hg : OkG X.nox cl tgs g tg)
  (hb : OkSs X.nox cl (fun _ _ _ => False) Φ G n body b) (hs : ∀ x, foldedSetIterable iter X.env x = pure x) : OkS X cl XE Φ G n (.loop k its tgs body) (.For tg iter b [] pos) := by
 obtain ⟨wi, pi, hw⟩ := hi
 obtain ⟨pg, hgq⟩ := hg
 obtain ⟨tb, pb, ib⟩ := hb
 refine ⟨_, PS.nox (ps_for (X := X.nox) PassesOwn.never hc pi pg pb hs), fun F₀ H₀ F σ δ H W f h => ?_⟩
 simp only [xec] at h
 obtain ⟨F1, s1, f1⟩ := f.frz (leakss false its)
 generalize hδ : Py.frz (leakss false its) δ = δ1 at h f1
 refine hw F1 σ δ1 H _ f1.sees ?_
 cases e : (evs Φ G false its δ1).bind (itemsD k) with
 | bad => rw [e] at h; exact h
 | exc c => rw [e] at h; exact (show False from h).elim
 | ok xs =>
  rw [e] at h
  have h : PostS X.K cl XE F₀ H₀ W (forM (fun x δ' => match spread tgs.length x with
    | none => .bad
    | some ts => xecs Φ G n body (sets δ' tgs ts)) xs δ1) := h
  generalize hfb : (fun x δ' => match spread tgs.length x with
    | none => Out.bad
    | some ts => xecs Φ G n body (sets δ' tgs ts)) = fb at h
  intro F2 H2 J P u2 W2 p2
  refine ⟨fun i m σ' H' => m = xs.length - i ∧ i ≤ xs.length ∧ ∃ F' δ', Fit X.K cl F₀ H₀ F' H' σ' δ' ∧ P F' H' ∧ PostS X.K cl XE F₀ H₀ W (forM fb (xs.drop i) δ'), ⟨_, rfl, Nat.zero_le _, F2, δ1, f1.to u2, p2, by simpa using h⟩, ?_⟩
  rintro i m σ' H' ⟨rfl, hi, F', δ', f', pH, h'⟩
  by_cases hlt : i < xs.length
  ·refine .inr ?_
   obtain ⟨go, yl⟩ := W2.go F' H' i xs[i] pH (by simp [hlt])
   refine ⟨go, fun σ3 H3 => ∃ F3 δ3, Fit X.K cl F₀ H₀ F3 H3 σ3 δ3 ∧ P F3 H3 ∧ PostS X.K cl XE F₀ H₀ W (forM fb (xs.drop (i + 1)) δ3), fun σ3 H3 z => ⟨xs.length - (i + 1), by omega, rfl, hlt, z⟩, fun v H3 hy => ?_⟩
   obtain ⟨u3, rv⟩ := yl v H3 hy
   have f3 := f'.to u3
   have p3 : P F' H3 := W2.st F' H' F' H3 pH (by unfold Stb; rw [if_neg Bool.false_ne_true]; exact Pres.of_same u3.same) fun _ z => z
   rw [List.drop_eq_getElem_cons hlt, Py.forM.eq_2] at h'
   cases hsp : spread tgs.length xs[i] with
   | none =>
    have : fb xs[i] δ' = .bad := by rw [← hfb]; simp only [hsp]
    rw [this] at h'; exact h'.elim
   | some ts =>
    have hx : fb xs[i] δ' = xecs Φ G n body (sets δ' tgs ts) := by rw [← hfb]; simp only [hsp]
    rw [hx] at h'
    refine hgq F' H3 σ' v xs[i] ts _ hsp rv fun vs rvs => ?_
    have f4 := f3.sets tgs rvs
    obtain ⟨Hm, f5, back⟩ := f4.rebase
    refine ib F' Hm F' _ _ H3 _ f5 ?_
    cases e2 : xecs Φ G n body (sets δ' tgs ts) with
    | nx δ6 =>
     rw [e2] at h'
     intro F6 σ6 H6 f6
     obtain ⟨up, pr, sb, bk⟩ := back F6 H6 f6.up
     exact ⟨F6, δ6, bk σ6 δ6 f6, W2.st F' H3 F6 H6 p3 (by unfold Stb; rw [if_neg Bool.false_ne_true]; exact pr) sb, h'⟩
    | ct δ6 =>
     rw [e2] at h'
     intro F6 σ6 H6 f6
     obtain ⟨up, pr, sb, bk⟩ := back F6 H6 f6.up
     exact ⟨F6, δ6, bk σ6 δ6 f6, W2.st F' H3 F6 H6 p3 (by unfold Stb; rw [if_neg Bool.false_ne_true]; exact pr) sb, h'⟩
    | bk δ6 =>
     rw [e2] at h'
     intro F6 σ6 H6 f6
     obtain ⟨up, pr, sb, bk⟩ := back F6 H6 f6.up
     exact h' F6 σ6 H6 (bk σ6 δ6 f6)
    | rt d =>
     rw [e2] at h'
     intro F6 v6 H6 u6 r6
     exact h' F6 v6 H6 (back F6 H6 u6).1 r6
    | xc c δ6 => rw [e2] at h'; exact (show False from h').elim
    | bad => rw [e2] at h'; exact h'
  ·have ei : i = xs.length := by omega
   subst ei
   refine .inl ⟨W2.stop F' H' pH, ?_⟩
   rw [List.drop_length, Py.forM.eq_1] at h'
   exact h' F' σ' H' f'
theorem nE {tx : Tx} {c : Expr} {body : List Sm} {b : List Stmt} {pos : Pos} (hi : OkT X.nox cl (fun _ _ _ => False) Φ G tx c) (hb : OkSs X.nox cl (fun _ _ _ => False) Φ G n body b) : OkS X cl XE Φ G n (.whl tx body) (.While c b [] pos) := by
 obtain ⟨tc, pc, ic⟩ := hi
 obtain ⟨tb, pb, ib⟩ := hb
 refine ⟨_, PS.nox (oG (X := X.nox) PassesOwn.never pc pb), fun F₀ H₀ F σ δ H W f h => ?_⟩
 simp only [xec] at h
 refine ⟨fun m σ' H' => ∃ F' δ', Fit X.K cl F₀ H₀ F' H' σ' δ' ∧ PostS X.K cl XE F₀ H₀ W (whlM (evT Φ G tx) (Py.frz (leaksT tx)) (xecs Φ G n body) m δ'), ⟨n, F, δ, f, h⟩, ?_⟩
 rintro m σ' H' ⟨F', δ', f', h'⟩
 cases m with
 | zero => exact h'.elim
 | succ m =>
  obtain ⟨F1, s1, f1⟩ := f'.frz (leaksT tx)
  simp only [whlM] at h'
  refine ic F1 σ' _ H' _ f1.sees ?_
  cases e : evT Φ G tx (Py.frz (leaksT tx) δ') with
  | bad => rw [e] at h'; exact h'
  | exc c => rw [e] at h'; exact (show False from h').elim
  | ok t =>
   rw [e] at h'
   intro F2 H2 u2
   cases t with
   | true =>
    rw [if_pos rfl]
    refine ⟨fun σ3 H3 => ∃ F3 δ3, Fit X.K cl F₀ H₀ F3 H3 σ3 δ3 ∧ PostS X.K cl XE F₀ H₀ W (whlM (evT Φ G tx) (Py.frz (leaksT tx)) (xecs Φ G n body) m δ3), fun σ3 H3 z => ⟨m, Nat.lt_succ_self m, z⟩, ?_⟩
    refine ib F₀ H₀ F2 σ' _ H2 _ (f1.to u2) ?_
    cases e2 : xecs Φ G n body (Py.frz (leaksT tx) δ') with
    | nx δ6 => rw [e2] at h'; exact fun F6 σ6 H6 f6 => ⟨F6, δ6, f6, h'⟩
    | ct δ6 => rw [e2] at h'; exact fun F6 σ6 H6 f6 => ⟨F6, δ6, f6, h'⟩
    | bk δ6 => rw [e2] at h'; exact fun F6 σ6 H6 f6 => h' F6 σ6 H6 f6
    | rt d => rw [e2] at h'; exact h'
    | xc c δ6 => rw [e2] at h'; exact (show False from h').elim
    | bad => rw [e2] at h'; exact h'
   | false =>
    rw [if_neg Bool.false_ne_true]
    exact h' F2 σ' H2 (f1.to u2)
def tSs (K : PySem.W.Frag) (cl : Nat → Addr) (XE : Nat → St → Hp → Prop) (Φ : Nat → List D → R D) (G : List D) (n : Nat) (sms : List Sm) : TS := fun W σ H => ∃ F₀ H₀ F δ, Fit K cl F₀ H₀ F H σ δ ∧ PostS K cl XE F₀ H₀ W (xecs Φ G n sms δ)
theorem OkSs.pss {sms : List Sm} {sts : List Stmt} (h : OkSs X cl XE Φ G n sms sts) : PSs X sts (tSs X.K cl XE Φ G n sms) := by
 obtain ⟨t, p, i⟩ := h
 exact fun pins s σ H W I ⟨F₀, H₀, F, δ, f, z⟩ => p pins s σ H W I (i F₀ H₀ F σ δ H W f z)
theorem Fit.unset (f : Fit K cl F₀ H₀ F H σ δ) (i : Nat) : Fit K cl F₀ H₀ F H (σ.set i none) (δ.set i none) := by
 have hl := f.sees.len
 have oσ : ∀ j, j ≠ i → (σ.set i none)[j]? = σ[j]? := fun j hj => List.getElem?_set_ne (Ne.symm hj)
 have oδ : ∀ j, j ≠ i → (δ.set i none)[j]? = δ[j]? := fun j hj => List.getElem?_set_ne (Ne.symm hj)
 have here : ∀ o : Bool × D, (δ.set i none)[i]? ≠ some (some o) := fun o z => by
  by_cases hi : i < δ.length
  ·rw [List.getElem?_set_self hi] at z; cases z
  ·rw [List.getElem?_eq_none (by simpa using hi)] at z; cases z
 have ne : ∀ {j : Nat} {o : Bool × D}, (δ.set i none)[j]? = some (some o) → j ≠ i := fun {j o} z e => by subst e; exact here o z
 refine ⟨⟨by simp [hl], f.sees.trk, fun j e z => ?_, fun j e z => ?_⟩, f.up, fun j e b z w => ?_, fun j k e e' b hjk z z' w => ?_⟩
 ·have hj := ne z
  rw [oδ j hj] at z
  rw [oσ j hj]
  exact f.sees.sh j e z
 ·have hj := ne z
  rw [oδ j hj] at z
  rw [oσ j hj]
  exact f.sees.ow j e z
 ·have hj := ne z
  rw [oδ j hj] at z
  rw [oσ j hj] at w
  exact f.new j e b z w
 ·have hj := ne z
  have hk := ne z'
  rw [oδ j hj] at z
  rw [oδ k hk] at z'
  rw [oσ j hj] at w
  rw [oσ k hk]
  exact f.ds j k e e' b hjk z z' w
theorem nG {CE : Addr} {cn x : Str} {j : Nat} {np hpos pos : Pos} {body hb : List Sm} {cs : List Nat} {b suite : List Stmt} {b0 : Stmt} (hx : X.ex = []) (hst : X.stack = X.env :: X.outer) (hfm : X.env.frame = some X.env.locals) (hg : Gl X cn) (hm : X.mg cn = some (.ref CE)) (hdb : (cn == ("__debug__" : Str)) = false)
  (hN : X.N.Nodup) (hi : X.N[j]? = some x) (hl : X.env.scope.names.lookup x = some .local)
  (hcs : ∀ c ∈ cs, PySem.W.exmOne X.K (.ref (cl c)) (.ref CE) = some true) (ib : ∀ pins XH, OkSs (tryCx X cl pins XH) cl XH Φ G n body b) (ih : ∀ a, OkSs (hdCx X a) cl (fun _ _ _ => False) Φ G n hb (b0 :: suite)) :
  OkS X cl XE Φ G n (.tryx body cs (some j) hb) (.Try b [.ExceptHandler (some (.Name cn np)) (some x) (b0 :: suite) hpos] [] [] pos) := by
 refine ⟨_, oZ (cl := cl) (th := tSs X.K cl (fun _ _ _ => False) Φ G n hb) hx hst hfm hg hm hdb hN hi hl fun a => (ih a).pss, fun F₀ H₀ F σ δ H W f h pins => ?_⟩
 obtain ⟨t, p, i⟩ := ib pins (hdRas X cl CE j (tSs X.K cl (fun _ _ _ => False) Φ G n hb) W)
 refine ⟨t, p, i F₀ H₀ F σ δ H W f ?_⟩
 simp only [xec] at h
 cases e : xecs Φ G n body δ with
 | xc c δ' =>
  rw [e] at h
  intro F' σ' H' f'
  by_cases hc : cs.contains c = true
  ·simp only [hc, if_true] at h
   refine ⟨hcs c (by simpa using hc), fun a ha => ?_⟩
   have u : Up F' H' (addF F' a) (L2.upd H' a (excHO a (cl c))) := (Up.alloc ha).freeze ha (by rw [aO]; exact Option.some_ne_none _)
   have f2 := (f'.to u).set j (d := .exn c) (v := .ref a) (by simp only [Rep]; exact ⟨a, rfl, .inr rfl, aO⟩)
   refine ⟨F₀, H₀, _, _, f2, ?_⟩
   cases e2 : xecs Φ G n hb (δ'.set j (some (false, .exn c))) with
   | nx δ'' => rw [e2] at h; exact fun F3 σ3 H3 f3 => h F3 _ H3 (f3.unset j)
   | rt d => rw [e2] at h; exact h
   | bk _ => rw [e2] at h; exact (show False from h).elim
   | ct _ => rw [e2] at h; exact (show False from h).elim
   | xc _ _ => rw [e2] at h; exact (show False from h).elim
   | bad => rw [e2] at h; exact (show False from h).elim
  ·simp only [hc] at h; exact (show False from h).elim
 | nx δ' => rw [e] at h; exact h
 | bk δ' => rw [e] at h; exact h
 | ct δ' => rw [e] at h; exact h
 | rt d => rw [e] at h; exact h
 | bad => rw [e] at h; exact h
end
end L2.Snd
namespace L2.Snd
open PySem PySem.Spec PyProof.Rows L2 Py
section
variable {X : Cx} {cl : Nat → Addr} {XE : Nat → St → Hp → Prop} {Φ : Nat → List D → R D} {G : List D} {n : Nat} {K : PySem.W.Frag} {m : Bool}
def rIsx (K : PySem.W.Frag) (cl : Nat → Addr) (vC : V) (uC : Value) : List V → Hp → VK → Prop := fun xs H Q => ∃ a c b, xs = [.ref a, vC] ∧ H a = some (ExcOf a (cl c)) ∧ ExcCls K (cl c) ∧ PySem.W.kitOne K (.ref (cl c)) uC = some b ∧ Q (.bl b) H
theorem pN {vC : V} {uC : Value} (hr : ∀ u, RelV vC u → u = uC) : CallR X (.builtin "isinstance") (rIsx X.K cl vC uC) := by
 intro pins s σ H xs us Q I r h
 obtain ⟨a, c, b, rfl, ha, F, e, q⟩ := h
 obtain ⟨u, w, rfl, ru, rw'⟩ := vals2 r
 cases (show u = Value.ref a from ru)
 have := hr w rw'
 subst this
 have x : ExcAt a (cl c) s.heap := (I.hok a _ ha).1
 exact PySem.W.kia_one (o4 F) I.kIn x e (fun z => nomatch z) fun tk => ⟨.bl b, H, I.tok tk, rfl, q⟩
theorem eE {cs : List Bool} {vC : V} {uC : Value} {Cn : Str} {ea : Ex} {a : Expr} {p1 p2 pos : Pos} (hr : ∀ u, RelV vC u → u = uC) (pt : PE X (.Name Cn p2) (tC vC)) (hg : Gl X "isinstance") (hm : X.mg "isinstance" = none)
  (hk : ∀ (c : Nat) b, cs[c]? = some b → ExcCls X.K (cl c) ∧ PySem.W.kitOne X.K (.ref (cl c)) uC = some b) (ia : OkE X cl XE Φ G true ea a)
  (hs : starEach [a, .Name Cn p2] X.env = [(false, eval a X.env), (false, eval (.Name Cn p2) X.env)]) : OkE X cl XE Φ G m (.op1 (.isExn cs) ea) (.Call (.Name "isinstance" p1) [a, .Name Cn p2] [] pos) := by
 obtain ⟨ta, pa, ia⟩ := ia
 have hs' : starEach (a :: [.Name Cn p2]) X.env = (false, eval a X.env) :: starEach [.Name Cn p2] X.env := hs
 refine ⟨_, dM (pN (cl := cl) hr) hg hm boot_isinstance (pa_cons pa (pa_cons pt pa_nil rfl) hs') (by decide) (by decide) hs' rfl, fun F σ δ H Q S h => ?_⟩
 simp only [ev] at h
 refine ia F σ δ H _ S (Meet.mono (Meet.bind h) (fun d _ hp F1 x H1 u1 g1 => ?_) fun c z => z)
 have hp1 := Post.up hp u1
 cases d with
 | exn c =>
  have hp2 : Post X.K cl (fun c => XE c σ) m (frsh (.op1 (.isExn cs) ea)) F1 H1 Q (ofO ((cs[c]?).map .bl)) := hp1
  cases e : cs[c]? with
  | none => rw [e] at hp2; exact hp2.no.elim
  | some b =>
   rw [e] at hp2
   rcases g1.got with g | ⟨p, _, o⟩
   ·simp only [Rep] at g
    obtain ⟨a', rfl, fa, ha⟩ := g
    obtain ⟨k1, k2⟩ := hk c b e
    exact ⟨a', c, b, rfl, ha, k1, k2, Post.bl hp2⟩
   ·exact o.elim
 | _ => exact hp1.no.elim
end
section
variable {P : Program} {w : World} {K : PySem.W.Frag} {mg : Str → Option Value} {base : Heap} {cl : Nat → Addr} {Pg : Prog}
theorem jQ {k f : Nat} {Fn : Py.Fn} {vs : List V} {H : Hp} {Q : VK} {E : XK} (hf : Pg.fns[f]? = some Fn) (h : spOf K cl (Phi Pg k) f vs H Q E) : vs.length = Fn.np := by
 obtain ⟨F, ds, tr, r, z⟩ := h
 rw [r.length]
 cases k with
 | zero => exact z.elim
 | succ k =>
  simp only [Phi, hf] at z
  by_cases hl : ds.length = Fn.np
  ·exact hl
  ·rw [if_neg hl] at z; exact z.elim
theorem nH {F : Addr → Prop} {H : Hp} {N : List Str} {Fn : Py.Fn} {ds : List D} {vs : List V} (tr : Trk F H) (r : Reps K cl F H ds vs) (hl : ds.length = Fn.np) (hn : Fn.ns = N.length) (hp : Fn.np ≤ Fn.ns) : Fit K cl F H F H (start N vs) (startD Fn ds) := by
 have hvl := r.length
 have get : ∀ (i : Nat) (o : Bool × D), (startD Fn ds)[i]? = some (some o) → ∃ d, ds[i]? = some d ∧ o = (false, d) := fun i o z => by
  unfold startD at z
  by_cases hi : i < ds.length
  ·rw [List.getElem?_append_left (by simpa using hi), List.getElem?_map] at z
   cases e : ds[i]? with
   | none => rw [e] at z; cases z
   | some d => rw [e] at z; cases z; exact ⟨d, rfl, rfl⟩
  ·rw [List.getElem?_append_right (by simpa using hi), List.getElem?_replicate] at z
   split at z <;> cases z
 refine ⟨⟨?_, tr, fun i d z => ?_, fun i d z => ?_⟩, Up.refl F H, fun i d a z _ => ?_, fun i j d e a _ z _ _ => ?_⟩
 ·unfold start startD
  rw [List.length_append, List.length_append, List.length_map, List.length_map, List.length_replicate, List.length_replicate]
  omega
 ·obtain ⟨d', e1, e2⟩ := get i _ z
  cases e2
  obtain ⟨v, e3, rv⟩ := r.get e1
  refine ⟨v, ?_, rv⟩
  unfold start
  rw [List.getElem?_append_left (by
   have := (List.getElem?_eq_some_iff.mp e3).1
   simpa using this), List.getElem?_map, e3]
  rfl
 ·obtain ⟨d', _, e2⟩ := get i _ z; cases e2
 ·obtain ⟨d', _, e2⟩ := get i _ z; cases e2
 ·obtain ⟨d', _, e2⟩ := get i _ z; cases e2
abbrev cxE (P : Program) (w : World) (K : PySem.W.Frag) (mg : Str → Option Value) (base : Heap) (N : List Str) (qual : Str) (scope : Scope) (f : Addr) (cd : Value) (A : Around) (outer : List Env) (s : Shared) (H : Hp) (E : XK) : Cx :=
 cxOf (CXE P w) P w K mg base N qual scope f cd A outer s H E
theorem aW {x qual : Str} {st : Stmt} {fa : Addr} {fd : FuncData} {N ps : List Str} {f j k : Nat} {Fn : Py.Fn} (F : Fun K x qual st fa fd) (S : FnScope N ps (defScope st)) (hf : Pg.fns[f]? = some Fn) (hnp : Fn.np = ps.length) (hns : Fn.ns = N.length)
  (hb : ∀ (cd : Value) (A : Around) (outer : List Env) (s : Shared) (H : Hp) (E : XK), Room k (A.deeper (envOfC qual (defScope st) s.heap.objs.size fa cd)) →
   OkSs (cxE P w K mg base N qual (defScope st) fa cd A outer s H E) cl (fun c _ H' => E (.ref (cl c)) none H') (Phi Pg j) Pg.gls 1000 Fn.body (defBody st)) :
  FnOk P w K mg base (CXE P w) (k + 1) fa fd ps (spOf K cl (Phi Pg (j + 1)) f) := by
 obtain ⟨oc, od, kV, doc, pm, an, cdv, ct, osl, rfl, lk, hcd⟩ := F.ex
 refine fn_of lk hcd S (fun vs H Q E h => by rw [jQ hf h, hnp]) fun A outer s H vs Q E hr h => ?_
 have hvl := jQ hf h
 obtain ⟨F0, ds, tr, r, z⟩ := h
 obtain ⟨t, pt, it⟩ := hb cdv A outer s H E hr
 have hl : ds.length = Fn.np := by rw [← r.length]; exact hvl
 have hle : Fn.np ≤ Fn.ns := by
  rw [hnp, hns]
  have := congrArg List.length S.pre
  rw [List.length_take] at this
  omega
 refine ⟨t, pt, it F0 H F0 (start N vs) (startD Fn ds) H _ (nH tr r hl hns hle) ?_⟩
 simp only [Phi, hf, if_pos hl] at z
 cases e : xecs (Phi Pg j) Pg.gls 1000 Fn.body (startD Fn ds) with
 | nx δ => rw [e] at z; exact fun F' σ' H' f' => z F' .non H' f'.up (by simp [Rep])
 | rt d => rw [e] at z; exact fun F' v H' u rp => z F' v H' u rp
 | xc c δ => rw [e] at z; exact fun F' σ' H' f' => z F' H' f'.up
 | bk δ => rw [e] at z; exact z.elim
 | ct δ => rw [e] at z; exact z.elim
 | bad => rw [e] at z; exact z.elim
theorem pO {fa : Addr} {fd : FuncData} {ps : List Str} {f k : Nat} : FnOk P w K mg base (CXE P w) k fa fd ps (spOf K cl (Phi Pg 0) f) :=
 ⟨fun vs H Q E ⟨F, ds, _, _, z⟩ => z.elim, fun A outer s H args us vs Q E _ _ _ _ ⟨F, ds, _, _, z⟩ => z.elim⟩
end
end L2.Snd
namespace L2
open PySem PySem.Spec PyProof.Rows
theorem nI {P : Program} {w : World} {K : PySem.W.Frag} {mg mb : Str → Option Value} {CX : CXT} {k : Nat} {fa a : Addr} {fd : FuncData} {x : Str} {sp : Sp} {s₁ : Shared} {vs : List Value} {ns : List Int}
  (KX : K.In s₁.heap) (hns : s₁.heap.Ns mainGlobals mg) (hb : s₁.heap.Ns builtinsNs mb) (hbb : ∀ x : Str, x ≠ "__name__" → mb x = bootBuiltins x) (hlim : s₁.heap.NoLimit) (hg : s₁.gens = #[])
  (ha : s₁.heap.get? a = some { cls := .type "list", data := .seq vs.toArray }) (hi : IntsAre vs ns) (hl : ns.length ≤ sizeLine) (hr : Room k callerA)
  (F : ∀ base : Heap, K.In base → base.Ns mainGlobals mg → (∀ b o, s₁.heap.get? b = some o → (∀ its n, o.data ≠ .seq its n) → base.get? b = some o) → FnOk P w K mg base CX k fa fd [x] sp) (hbind : ∀ (s : Shared) (u : Value), BindsTo s fd ⟨[u], []⟩ [(x, u)])
  (hsp : ∀ H : Hp, Only H → SqL K H a (ns.map V.int) → sp [.ref a] H (fun v _ => v = .bl true) fun _ _ _ => False)
  (hCX : ∀ H e s', CX [] H s₁ (fun _ _ _ => False) e s' → False) :
  codeAny (model P w) callerA (.call (.ref fa) ⟨[.ref a], []⟩) (fun r s' => r = .ok (.ret (.bool true)) ∧ OldK s₁.heap s'.heap ∧ s'.os = s₁.os ∧ AllBare s'.gens) s₁ := by
 have rv := g5 hi
 have lenV := hi.length
 -- from an abstract heap in which nothing but the script may be tracked
 have core : ∀ H : Hp, Only H → SqL K H a (ns.map V.int) → HOk P w H s₁.heap → (∀ b, H b ≠ none → b = a) → (H a ≠ none → K.lookup a = none) →
   codeAny (model P w) callerA (.call (.ref fa) ⟨[.ref a], []⟩) (fun r s' => r = .ok (.ret (.bool true)) ∧ OldK s₁.heap s'.heap ∧ s'.os = s₁.os ∧ AllBare s'.gens) s₁ := by
  intro H hO hS hok hA hK
  have base_of : ∀ {b : Addr} {o : Obj}, s₁.heap.get? b = some o → H b = none → (hidT s₁.heap H).get? b = some o := fun e n => oB e n
  have noA : ∀ {b : Addr} {o : Obj} {es : Array DictEntry} {ep : Nat}, s₁.heap.get? b = some o → o.data = .dict es ep → H b = none := fun {b o es ep} e d => by
   cases q : H b with
   | none => rfl
   | some u =>
    have e' : b = a := hA b (by rw [q]; simp)
    subst e'
    rw [ha] at e; cases e
    have d' : Data.seq vs.toArray _ = Data.dict es ep := d
    cases d'
  have noS : ∀ {b : Addr} {o : Obj}, s₁.heap.get? b = some o → (∀ its n, o.data ≠ .seq its n) → H b = none := fun {b o} e nd => by
   cases q : H b with
   | none => rfl
   | some u =>
    have e' : b = a := hA b (by rw [q]; simp)
    subst e'
    rw [ha] at e; cases e
    exact (nd _ _ rfl).elim
  have nsK : ∀ {b : Addr} {m : Str → Option Value}, s₁.heap.Ns b m → (hidT s₁.heap H).Ns b m := fun {b m} ⟨o, es, ep, e, d, r⟩ => ⟨o, es, ep, base_of e (noA e d), d, r⟩
  have hKb : K.In (hidT s₁.heap H) := fun b o e => base_of (KX b o e) (by
   cases q : H b with
   | none => rfl
   | some u =>
    have e' : b = a := hA b (by rw [q]; simp)
    subst e'
    rw [hK (by rw [q]; simp)] at e; cases e)
  have hM : Mod K mg (hidT s₁.heap H) := ⟨hKb, nsK hns, ⟨mb, nsK hb, hbb⟩, let ⟨mc, h1, h2⟩ := hlim; ⟨mc, nsK h1, h2⟩⟩
  have e0 : Env0 P w K mg (hidT s₁.heap H) callerA [] s₁ H := ⟨rfl, hM, fun b o e => of_hidT e, Nat.le_of_eq (mP _ _), trivial, fun b hb => absurd (show b ∈ ([] : List Addr) from hb) (by simp), hok, .of_eq hg⟩
  refine codeAny_mono ((F _ hKb (nsK hns) fun b o e nd => base_of e (noS e nd)).run callerA [] s₁ H ⟨[.ref a], []⟩ [.ref a] [.ref a] _ _ hr e0 (hbind s₁ (.ref a)) (.cons rfl .nil) (hsp H hO hS)) fun r s' h => ?_
  cases r with
  | error e => exact (hCX H e s' h).elim
  | ok fl =>
   cases fl with
   | next => exact False.elim h
   | brk => exact False.elim h
   | cont => exact False.elim h
   | ret u =>
    obtain ⟨v, H', os, bare, un, hok', r', q⟩ := h
    have q' : v = .bl true := q
    subst q'
    obtain rfl : u = Value.bool true := r'
    refine ⟨rfl, OldK.of_keep fun b o e => ?_, os, bare⟩
    cases q : H b with
    | none => exact un.keep b o e q (by intro z; exact absurd (show b ∈ ([] : List Addr) from z) (by simp)) (by simp)
    | some u =>
     rcases hO b with z | ⟨ob, xs, z⟩
     ·rw [q] at z; cases z
     ·have z2 := un.frzs b ob _ z
      obtain ⟨e1, _⟩ := hok b _ z
      obtain ⟨e2, _⟩ := hok' b _ z2
      rw [e] at e1; cases e1
      exact e2
 cases hk : K.lookup a with
 | some o =>
  -- the script is one of the module's own objects
  have e := KX a o hk
  rw [ha] at e
  cases e
  refine core (fun _ => none) (fun _ => .inl rfl) (.inr ⟨_, vs.toArray, _, hk, rfl, rfl, rfl, by rw [List.size_toArray, lenV]; exact hl, by simpa using rv⟩) (fun b u z => by have z' : (none : Option HO) = some u := z; cases z') (fun b z => absurd rfl z) fun z => absurd rfl z
 | none =>
  refine core (fun b => if b = a then some (.frz { cls := .type "list", data := .seq vs.toArray } (.lst (ns.map V.int))) else none) (fun b => ?_) (.inl (.inr ⟨{ cls := .type "list", data := .seq vs.toArray }, if_pos rfl⟩)) (fun b u z => ?_) (fun b z => ?_) fun _ => hk
  ·by_cases hb : b = a
   ·exact .inr ⟨_, _, if_pos hb⟩
   ·exact .inl (if_neg hb)
  ·by_cases hb : b = a
   ·have z' := (if_pos hb).symm.trans z
    cases z'
    subst hb
    exact ⟨ha, by rw [List.length_map]; exact hl, vs, _, rv, ha⟩
   ·have z' := (if_neg hb).symm.trans z
    cases z'
  ·by_cases hb : b = a
   ·exact hb
   ·exact absurd (if_neg hb) z
theorem jR {x : Str} {C : Addr} {bm : List Value} {nid : String} {mg : Str → Option Value} {h b : Heap} (O : OwnCls x C bm nid mg h) (k : ∀ a o, h.get? a = some o → (∀ its n, o.data ≠ .seq its n) → b.get? a = some o) : OwnCls x C bm nid mg b := by
 obtain ⟨tl, N, nm, q, bs, hdct, sn, sub, ab, col, dd, k0, k1, k2, k3, k5, mN, hC, hN, hni, T⟩ := O.obj
 have ns : ∀ {N : Addr} {m : Str → Option Value}, h.Ns N m → b.Ns N m := fun {N m} ⟨o, es, ep, e, d, r⟩ => ⟨o, es, ep, k _ _ e fun its n z => (by rw [d] at z; cases z), d, r⟩
 refine ⟨O.bound, tl, N, nm, q, bs, hdct, sn, sub, ab, col, dd, k0, k1, k2, k3, k5, mN, k _ _ hC (fun its n z => by cases z), ns hN, hni, ?_⟩
 clear hC hN hni
 induction T with
 | base => exact .base
 | own hA hN hni _ ih => exact .own (k _ _ hA fun its n z => by cases z) (ns hN) hni ih
namespace Snd
open Py
theorem sp_law {K : PySem.W.Frag} {cl : Nat → Addr} {Φ : Nat → List D → R D} {f : Nat} {H : Hp} {a : Addr} {ns : List Int} (e : Φ f [.scr ns] = .ok (.bl true)) (hO : Only H) (hS : SqL K H a (ns.map V.int)) : spOf K cl Φ f [.ref a] H (fun v _ => v = .bl true) fun _ _ _ => False := by
 refine ⟨fun _ => False, [.scr ns], fun _ z => z.elim, Reps.cons ?_ Reps.nil, ?_⟩
 ·simp only [Rep]
  refine ⟨a, rfl, ?_⟩
  rcases hS with (h | ⟨o, h⟩) | h
  ·rcases hO a with z | ⟨o, xs, z⟩
   ·rw [z] at h; cases h
   ·rw [z] at h; cases h
  ·exact .inl ⟨o, h⟩
  ·exact .inr h
 ·rw [e]
  intro F' v H' u r
  simpa only [Rep] using r
theorem no_cxe {P : Program} {w : World} {H : Hp} {s : Shared} {e : Value} {s' : Shared} (h : CXE P w [] H s (fun _ _ _ => False) e s') : False := by
 obtain ⟨a, C, H', _, _, _, _, _, _, z⟩ := h
 exact z
end Snd
end L2
namespace L2.Snd
open PySem PySem.Spec PyProof.Rows L2 Py
section
variable {X : Cx} {cl : Nat → Addr} {XE : Nat → St → Hp → Prop} {YE : Nat → Hp → Prop} {Φ : Nat → List D → R D} {G : List D} {n : Nat} {m fr : Bool}
theorem pc_R {op : CmpOp} {r : R2} {a b : Expr} {ta tb : TE} (ho : OpR X (compareOp op) r) (ha : PE X a ta) (hb : PE X b tb) : PC X op a b (tOp r ta tb) :=
 fun pins s σ H Q I h => binT ha hb I h fun v u s2 x y H2 I2 rx ry q => ho pins s2 σ H2 x y v u Q I2 rx ry q
structure OkCm (X : Cx) (cl : Nat → Addr) (XE : Nat → St → Hp → Prop) (Φ : Nat → List D → R D) (G : List D) (op : CmpOp) (ex : Ex) (a b : Expr) : Prop where
 ok : ∃ t, PC X op a b t ∧ ∀ F σ δ H Q, Sees X.K cl F H σ δ → Post X.K cl (fun c => XE c σ) true false F H Q (ev Φ G true ex δ) → t σ H Q
 bl : ∀ δ d, ev Φ G true ex δ = .ok d → ∃ b, d = .bl b
 md : ∀ m δ, ev Φ G m ex δ = ev Φ G true ex δ
theorem OkCm.e {op : CmpOp} {ex : Ex} {a b : Expr} {pos : Pos} (h : OkCm X cl XE Φ G op ex a b) (hm : behindInMarks op b = false) : OkE X cl XE Φ G m ex (.Compare a [op] [b] pos) := by
 obtain ⟨t, pc, i⟩ := h.ok
 refine ⟨t, pe_cmp pc hm, fun F σ δ H Q S z => i F σ δ H Q S ?_⟩
 rw [h.md] at z
 refine Meet.mono z (fun d e q F' v H' u g => ?_) fun c q => q
 obtain ⟨b', rfl⟩ := h.bl δ d e
 refine q F' v H' u ?_
 have gv : v = .bl b' := g.got.bl
 subst gv
 exact Res.gives (.of_rep (by simp [Rep]) (by simp [isOwn]))
theorem OkCm.t {op : CmpOp} {ex : Ex} {a b : Expr} {pos : Pos} (h : OkCm X cl XE Φ G op ex a b) (hm : behindInMarks op b = false) : OkT X cl XE Φ G (.leaf ex) (.Compare a [op] [b] pos) := by
 obtain ⟨t, pc, i⟩ := h.ok
 refine ⟨_, pt_cmp pc hm, fun F σ δ H Q S z => i F σ δ H _ S ?_⟩
 simp only [evT] at z
 refine Meet.mono (Meet.bind z) (fun d e q F' v H' u g => ?_) fun c q => q
 obtain ⟨b', rfl⟩ := h.bl δ d e
 have gv : v = .bl b' := g.got.bl
 exact ⟨b', gv, q F' H' u⟩
theorem eF {op : CmpOp} {o : Op2} {ea eb : Ex} {a b : Expr} {r : R2} (hr : OpR X (compareOp op) r) (ia : OkE X cl XE Φ G true ea a) (ib : OkE X cl XE Φ G true eb b)
  (ho : ∀ (YE : Nat → Hp → Prop) F H x y p q Q, Trk F H → Got X.K cl F H p x → Got X.K cl F H q y → Post X.K cl YE true false F H Q (op2 o p q) → r x y H Q) (hbl : ∀ p q d, op2 o p q = .ok d → ∃ b, d = .bl b) : OkCm X cl XE Φ G op (.op2 o ea eb) a b := by
 obtain ⟨ta, pa, ia⟩ := ia
 obtain ⟨tb, pb, ib⟩ := ib
 refine ⟨⟨_, pc_R hr pa pb, fun F σ δ H Q S h => two (a := a) (b := b) (o := op2 o) ia ib ho S (by simpa only [ev] using h)⟩, fun δ d e => ?_, fun m δ => by simp only [ev]⟩
 simp only [ev] at e
 cases e1 : ev Φ G true ea δ with
 | ok p =>
  cases e2 : ev Φ G true eb δ with
  | ok q => rw [e1, e2] at e; exact hbl p q d e
  | exc c => rw [e1, e2] at e; cases e
  | bad => rw [e1, e2] at e; cases e
 | exc c => rw [e1] at e; cases e
 | bad => rw [e1] at e; cases e
variable {ea eb : Ex} {a b : Expr} {pos : Pos}
theorem bl_lt (p q d : D) (h : op2 .lt p q = .ok d) : ∃ b, d = .bl b := by
 rcases sp_lt p q with ⟨i, j, _, _, e⟩ | e <;> rw [e] at h <;> cases h; exact ⟨_, rfl⟩
theorem bl_gt (p q d : D) (h : op2 .gt p q = .ok d) : ∃ b, d = .bl b := by
 rcases sp_gt p q with ⟨i, j, _, _, e⟩ | e <;> rw [e] at h <;> cases h; exact ⟨_, rfl⟩
theorem bl_ge (p q d : D) (h : op2 .ge p q = .ok d) : ∃ b, d = .bl b := by
 rcases sp_ge p q with ⟨i, j, _, _, e⟩ | e <;> rw [e] at h <;> cases h; exact ⟨_, rfl⟩
theorem op2_eq (p q : D) : op2 .eq p q = if pln 9 p && pln 9 q && kin p q then .ok (.bl (eqD p q)) else .bad := by cases p <;> cases q <;> rfl
theorem op2_ne (p q : D) : op2 .ne p q = if pln 9 p && pln 9 q && kin p q then .ok (.bl (!eqD p q)) else .bad := by cases p <;> cases q <;> rfl
theorem mC (p q : D) : op2 .notIn p q = (isin p q).bind fun b => .ok (.bl (!b)) := by cases p <;> cases q <;> rfl
theorem bl_eq (p q d : D) (h : op2 .eq p q = .ok d) : ∃ b, d = .bl b := by
 rw [op2_eq] at h; split at h <;> cases h; exact ⟨_, rfl⟩
theorem bl_ne (p q d : D) (h : op2 .ne p q = .ok d) : ∃ b, d = .bl b := by
 rw [op2_ne] at h; split at h <;> cases h; exact ⟨_, rfl⟩
theorem bl_nin (p q d : D) (h : op2 .notIn p q = .ok d) : ∃ b, d = .bl b := by
 rw [mC] at h; cases e : isin p q <;> rw [e] at h <;> cases h; exact ⟨_, rfl⟩
theorem c_lt (ia : OkE X cl XE Φ G true ea a) (ib : OkE X cl XE Φ G true eb b) : OkCm X cl XE Φ G .Lt (.op2 .lt ea eb) a b := eF op_lt ia ib (fun YE F H x y p q Q t g1 g2 h => dU (k := fun i j => .bl (decide (i < j))) sp_lt (fun _ _ => by simp [Rep]) (fun _ _ => rfl) g1 g2 h) bl_lt
theorem c_gt (ia : OkE X cl XE Φ G true ea a) (ib : OkE X cl XE Φ G true eb b) : OkCm X cl XE Φ G .Gt (.op2 .gt ea eb) a b := eF op_gt ia ib (fun YE F H x y p q Q t g1 g2 h => dU (k := fun i j => .bl (decide (j < i))) sp_gt (fun _ _ => by simp [Rep]) (fun _ _ => rfl) g1 g2 h) bl_gt
theorem c_ge (ia : OkE X cl XE Φ G true ea a) (ib : OkE X cl XE Φ G true eb b) : OkCm X cl XE Φ G .GtE (.op2 .ge ea eb) a b := eF op_ge ia ib (fun YE F H x y p q Q t g1 g2 h => dU (k := fun i j => .bl (decide (j ≤ i))) sp_ge (fun _ _ => by simp [Rep]) (fun _ _ => rfl) g1 g2 h) bl_ge
theorem c_eq (hu : X.A.units + 20 < cLine) (ia : OkE X cl XE Φ G true ea a) (ib : OkE X cl XE Φ G true eb b) : OkCm X cl XE Φ G .Eq (.op2 .eq ea eb) a b := eF (op_eqD (cl := cl) hu) ia ib (fun YE F H x y p q Q t g1 g2 h => ho_eq g1 g2 h) bl_eq
theorem c_ne (hu : X.A.units + 20 < cLine) (ia : OkE X cl XE Φ G true ea a) (ib : OkE X cl XE Φ G true eb b) : OkCm X cl XE Φ G .NotEq (.op2 .ne ea eb) a b := eF (op_neD (cl := cl) hu) ia ib (fun YE F H x y p q Q t g1 g2 h => ho_ne g1 g2 h) bl_ne
theorem c_nin (ia : OkE X cl XE Φ G true ea a) (ib : OkE X cl XE Φ G true eb b) : OkCm X cl XE Φ G .NotIn (.op2 .notIn ea eb) a b := eF iK ia ib (fun YE F H x y p q Q t g1 g2 h => ho_in true g1 g2 (by rw [mC] at h; simpa using h)) bl_nin
theorem pP {c : Prop} [Decidable c] {b : Bool} {d : D} (e : (if c then R.ok (D.bl b) else R.bad) = .ok d) : ∃ b, d = .bl b := by
 split at e <;> cases e; exact ⟨_, rfl⟩
theorem c_isN {j : Nat} {p : Pos} (ia : OkE X cl XE Φ G true ea a) : OkCm X cl XE Φ G .Is (.op1 .isNone ea) a (.Constant .none j p) := by
 obtain ⟨ta, pa, ia⟩ := ia
 refine ⟨⟨_, pc_isN pa, fun F σ δ H Q S h => ?_⟩, fun δ d e => ?_, fun m δ => by simp only [ev]⟩
 ·simp only [ev] at h
  exact ia F σ δ H _ S (Meet.mono (Meet.bind h) (fun p _ hp F1 x H1 u1 g1 => ho_isN g1.got (Post.up hp u1)) fun c z => z)
 ·simp only [ev] at e
  cases e1 : ev Φ G true ea δ with
  | ok p =>
   rw [e1] at e
   have e : op1 .isNone p = .ok d := e
   cases p <;> first | (cases e; done) | (cases e; exact ⟨_, rfl⟩) | exact pP e
  | exc c => rw [e1] at e; cases e
  | bad => rw [e1] at e; cases e
theorem c_isNN {j : Nat} {p : Pos} (ia : OkE X cl XE Φ G true ea a) : OkCm X cl XE Φ G .IsNot (.op1 .isNotNone ea) a (.Constant .none j p) := by
 obtain ⟨ta, pa, ia⟩ := ia
 refine ⟨⟨_, pc_notN pa, fun F σ δ H Q S h => ?_⟩, fun δ d e => ?_, fun m δ => by simp only [ev]⟩
 ·simp only [ev] at h
  exact ia F σ δ H _ S (Meet.mono (Meet.bind h) (fun p _ hp F1 x H1 u1 g1 => ho_isNN g1.got (Post.up hp u1)) fun c z => z)
 ·simp only [ev] at e
  cases e1 : ev Φ G true ea δ with
  | ok p =>
   rw [e1] at e
   have e : op1 .isNotNone p = .ok d := e
   cases p <;> first | (cases e; done) | (cases e; exact ⟨_, rfl⟩) | exact pP e
  | exc c => rw [e1] at e; cases e
  | bad => rw [e1] at e; cases e
theorem c_din (neg : Bool) (hu : X.A.units + 20 < cLine) (ia : OkE X cl XE Φ G true ea a) (ib : OkE X cl XE Φ G true eb b) : OkCm X cl XE Φ G (if neg then .NotIn else .In) (.din neg ea eb) a b := by
 have hu1 : X.A.units + 1 < cLine := Nat.lt_of_le_of_lt (Nat.add_le_add_left (by decide) _) hu
 obtain ⟨ta, pa, ia⟩ := ia
 obtain ⟨tb, pb, ib⟩ := ib
 have rd : ∀ F σ δ H Q, Sees X.K cl F H σ δ → Post X.K cl (fun c => XE c σ) true false F H Q (ev Φ G true (.din neg ea eb) δ) → ta σ H fun y H1 => tb σ H1 fun x H2 => ∃ a o, x = .ref a ∧ DGet H2 a y o ∧ Q (.bl (if neg then !o.isSome else o.isSome)) H2 := fun F σ δ H Q S h => by
  simp only [ev] at h
  refine ia F σ δ H _ S (Meet.mono (Meet.bind h) (fun q _ hp F1 y H1 u1 g1 => ?_) fun c z => z)
  refine ib F1 σ δ H1 _ (S.up u1) (Meet.mono (Meet.bind (Post.up hp u1)) (fun p _ hq F2 x H2 u2 g2 => ?_) fun c z => z)
  have hq2 := Post.up (K := X.K) (cl := cl) hq u2
  obtain ⟨ks, ds, i, rfl, rfl⟩ : ∃ ks ds i, p = .dic ks ds ∧ q = .int i := by
   cases p <;> cases q <;> first | exact (show False from hq2).elim | exact ⟨_, _, _, rfl, rfl⟩
  obtain ⟨l, kvs, rfl, h1, h2, h3⟩ := g2.got.dic
  refine ⟨l, _, rfl, by rw [(g1.got.up u2).int]; exact DGet.k (k := Sum.inl i) h1, ?_⟩
  rw [← (iP i h2 h3).2]
  exact Post.bl hq2
 refine ⟨?_, fun δ d e => ?_, fun m δ => by simp only [ev]⟩
 ·cases neg with
  | true => exact ⟨_, mX hu1 pa pb, rd⟩
  | false => exact ⟨_, pc_din hu1 pa pb, rd⟩
 ·simp only [ev] at e
  cases e1 : ev Φ G true ea δ with
  | ok p =>
   cases e2 : ev Φ G true eb δ with
   | ok q =>
    rw [e1, e2] at e
    simp only [R.bind_ok] at e
    cases q <;> cases p <;> first | (cases e; exact ⟨_, rfl⟩) | cases e
   | exc c => rw [e1, e2] at e; cases e
   | bad => rw [e1, e2] at e; cases e
  | exc c => rw [e1] at e; cases e
  | bad => rw [e1] at e; cases e
theorem aA {i : Nat} {x : Str} (hN : X.N[i]? = some x := by rfl) (hv : Vis X.env.scope x := by first | exact Or.inl rfl | exact Or.inr (Or.inl rfl) | exact Or.inr (Or.inr rfl)) (hd : (x == ("__debug__" : Str)) = false := by decide) (hcd : (x == ("__classdict__" : Str)) = false := by decide) :
  OkE X cl XE Φ G m (.var i) (.Name x pos) := ok_var hN hv hd hcd
theorem aK (ia : OkE X cl XE Φ G true ea a) (ib : OkE X cl XE Φ G true eb b) : OkE X cl XE Φ G m (.op2 .add ea eb) (.BinOp a .Add b pos) := eC (op_add.or (op_cat.or oV)) ia ib fun YE F H x y p q Q t g1 g2 h => ho_add t g1 g2 h
theorem fS (ia : OkE X cl XE Φ G true ea a) (ib : OkE X cl XE Φ G true eb b) : OkE X cl XE Φ G m (.op2 .sub ea eb) (.BinOp a .Sub b pos) := eC op_sub ia ib fun YE F H x y p q Q t g1 g2 h => dU (k := fun i j => .int (i - j)) sp_sub (fun _ _ => by simp [Rep]) (fun _ _ => rfl) g1 g2 h
theorem bT (ia : OkE X cl XE Φ G true ea a) (ib : OkE X cl XE Φ G true eb b) : OkE X cl XE Φ G m (.op2 .mul ea eb) (.BinOp a .Mult b pos) := eC op_mul ia ib fun YE F H x y p q Q t g1 g2 h => eZ (C := fun i j => (-(2 ^ 64) < i ∧ i < 2 ^ 64) ∨ (-(2 ^ 64) < j ∧ j < 2 ^ 64)) (k := fun i j => .int (i * j)) sp_mul (fun _ _ => by simp [Rep]) (fun _ _ => rfl) g1 g2 h
theorem aN (ia : OkE X cl XE Φ G true ea a) (ib : OkE X cl XE Φ G true eb b) : OkE X cl XE Φ G m (.op2 .mod ea eb) (.BinOp a .Mod b pos) := eC op_mod ia ib fun YE F H x y p q Q t g1 g2 h => eZ (C := fun i j => 0 < j) (k := fun i j => .int (i % j)) sp_mod (fun _ _ => by simp [Rep]) (fun _ _ => rfl) g1 g2 h
theorem b6 (ia : OkE X cl XE Φ G true ea a) (ib : OkE X cl XE Φ G true eb b) : OkE X cl XE Φ G m (.op2 .fdiv ea eb) (.BinOp a .FloorDiv b pos) := eC op_fdiv ia ib fun YE F H x y p q Q t g1 g2 h => eZ (C := fun i j => 0 < j ∧ j < 1073741824) (k := fun i j => .int (i / j)) sp_fdiv (fun _ _ => by simp [Rep]) (fun _ _ => rfl) g1 g2 h
theorem x_pow (ia : OkE X cl XE Φ G true ea a) (ib : OkE X cl XE Φ G true eb b) : OkE X cl XE Φ G m (.op2 .pow ea eb) (.BinOp a .Pow b pos) := eC op_pow ia ib fun YE F H x y p q Q t g1 g2 h => eZ (C := fun i j => 0 ≤ j ∧ j ≤ 1000000 ∧ i.natAbs < 2 ^ 64) (k := fun i j => .int (i ^ j.toNat)) sp_pow (fun _ _ => by simp [Rep]) (fun _ _ => rfl) g1 g2 h
theorem x_neg (ia : OkE X cl XE Φ G true ea a) : OkE X cl XE Φ G m (.op1 .neg ea) (.UnaryOp .USub a pos) := ok_un un_neg ia fun YE F H x p Q t g h => ho_neg g h
theorem x_at (ia : OkE X cl XE Φ G true ea a) (ib : OkE X cl XE Φ G true eb b) (hs : PlainIx b := by exact fun _ _ => rfl) : OkE X cl XE Φ G m (.op2 .at ea eb) (.Subscript a b pos) := ok_ix (ix_list.or ix_tup) hs ia ib fun YE F H x y p q Q t g1 g2 h => ho_at g1 g2 h
theorem x_dget (hu : X.A.units + 20 < cLine) (ia : OkE X cl XE Φ G true ea a) (ib : OkE X cl XE Φ G true eb b) (hs : NoSl b := by exact fun _ _ => rfl) : OkE X cl XE Φ G m (.dget ea eb) (.Subscript a b pos) := ok_dget (Nat.lt_of_le_of_lt (Nat.add_le_add_left (by decide) _) hu) hs ia ib
theorem nJ {i : Nat} {m : Bool} (δ : Sto) (c : Nat) : ev Φ G m (.var i) δ ≠ .exc c := by
 simp only [ev]
 cases m <;> simp only [rdR, rdV] <;> (intro z; split at z <;> first | (split at z <;> cases z) | cases z)
theorem x_index {i : Nat} {apos cpos : Pos} (ia : OkE X cl XE Φ G true ea a) (ib : OkE X cl XE Φ G true (.var i) b) (hbase : attributeBase a "index" X.env (eval a X.env) = eval a X.env := by rfl) (hline : (apos.endLine == cpos.line) = true := by rfl) (hs : starEach [b] X.env = [(false, eval b X.env)] := by rfl) :
  OkE X cl XE Φ G m (.op2 .index ea (.var i)) (.Call (.Attribute a "index" apos) [b] [] cpos) := ok_meth PySem.F.slot_list_index PySem.F.type_list_index oW ia ib hbase hline hs (fun p q => by cases p <;> first | exact .inl ⟨_, rfl⟩ | exact .inr rfl) (fun δ c => nJ δ c) fun YE F H x y p q Q g1 g2 h => pD g1 g2 h
theorem cN {p : Pos} (hm : X.mg "len" = none) (ia : OkE X cl XE Φ G true ea a) (hg : Gl X "len" := by rfl) (hs : starEach (a :: []) X.env = (false, eval a X.env) :: starEach [] X.env := by rfl) : OkE X cl XE Φ G m (.op1 .len ea) (.Call (.Name "len" p) [a] [] pos) :=
 dX (exs := [ea]) (o := lift1 (op1 .len)) ev1 iL hg hm PySem.boot_len (by decide) (by decide) hs rfl (bP hs ia aF) fun YE F H vs ds Q t g h => ho_len g h
theorem x_dlen {p : Pos} (hm : X.mg "len" = none) (ia : OkE X cl XE Φ G true ea a) (hg : Gl X "len" := by rfl) (hs : starEach [a] X.env = [(false, eval a X.env)] := by rfl) : OkE X cl XE Φ G m (.dlen ea) (.Call (.Name "len" p) [a] [] pos) := ok_dlen hg hm hs ia
theorem kS {p : Pos} (hm : X.mg "list" = none) (ia : OkE X cl XE Φ G true ea a) (hg : Gl X "list" := by rfl) (hs : starEach (a :: []) X.env = (false, eval a X.env) :: starEach [] X.env := by rfl) : OkE X cl XE Φ G m (.op1 .list ea) (.Call (.Name "list" p) [a] [] pos) :=
 g7 (exs := [ea]) (o := lift1 (op1 .list)) ev1 dQ hg hm boot_list (by decide) (by decide) hs rfl (bP hs ia aF) fun YE F H vs ds Q t g h => ho_list t g h
theorem b9 {p : Pos} (hm : X.mg "tuple" = none) (ia : OkE X cl XE Φ G true ea a) (hg : Gl X "tuple" := by rfl) (hs : starEach (a :: []) X.env = (false, eval a X.env) :: starEach [] X.env := by rfl) : OkE X cl XE Φ G m (.op1 .tuple ea) (.Call (.Name "tuple" p) [a] [] pos) :=
 g7 (exs := [ea]) (o := lift1 (op1 .tuple)) ev1 gP hg hm boot_tuple (by decide) (by decide) hs rfl (bP hs ia aF) fun YE F H vs ds Q t g h => o9 g h
theorem x_isInt {p1 p2 : Pos} (hm : X.mg "isinstance" = none) (hm2 : X.mg "int" = none) (ia : OkE X cl XE Φ G true ea a) (hg : Gl X "isinstance" := by rfl) (hg2 : Gl X "int" := by rfl) (hs : starEach [a, .Name "int" p2] X.env = [(false, eval a X.env), (false, eval (.Name "int" p2) X.env)] := by rfl) :
  OkE X cl XE Φ G m (.op1 .isInt ea) (.Call (.Name "isinstance" p1) [a, .Name "int" p2] [] pos) := kQ (T := "int") (by simp) hg hm hg2 hm2 boot_int (by decide) (by decide) ia hs rfl pF
theorem pQ {p1 p2 : Pos} (hm : X.mg "isinstance" = none) (hm2 : X.mg "bool" = none) (ia : OkE X cl XE Φ G true ea a) (hg : Gl X "isinstance" := by rfl) (hg2 : Gl X "bool" := by rfl) (hs : starEach [a, .Name "bool" p2] X.env = [(false, eval a X.env), (false, eval (.Name "bool" p2) X.env)] := by rfl) :
  OkE X cl XE Φ G m (.op1 .isBool ea) (.Call (.Name "isinstance" p1) [a, .Name "bool" p2] [] pos) := kQ (T := "bool") (by simp) hg hm hg2 hm2 boot_bool (by decide) (by decide) ia hs rfl nB
theorem iR {p1 p2 : Pos} (hm : X.mg "isinstance" = none) (hm2 : X.mg "tuple" = none) (ia : OkE X cl XE Φ G true ea a) (hg : Gl X "isinstance" := by rfl) (hg2 : Gl X "tuple" := by rfl) (hs : starEach [a, .Name "tuple" p2] X.env = [(false, eval a X.env), (false, eval (.Name "tuple" p2) X.env)] := by rfl) :
  OkE X cl XE Φ G m (.op1 .isTup ea) (.Call (.Name "isinstance" p1) [a, .Name "tuple" p2] [] pos) := kQ (T := "tuple") (by simp) hg hm hg2 hm2 boot_tuple (by decide) (by decide) ia hs rfl pG
theorem aD {ea : Ex} {es : List Ex} {a : Expr} {as : List Expr} (ia : OkE X cl XE Φ G m ea a) (ir : OkA X cl XE Φ G m es as) (hs : starEach (a :: as) X.env = (false, eval a X.env) :: starEach as X.env := by rfl) : OkA X cl XE Φ G m (ea :: es) (a :: as) := bP hs ia ir
theorem aY {exs : List Ex} {es : List Expr} {k : Nat} (ia : OkA X cl XE Φ G false exs es) (hl : exs.length ≤ LIM := by decide) : OkE X cl XE Φ G m (.tup exs) (.Tuple es k pos) := ok_tup hl ia
theorem bH {exs : List Ex} {es : List Expr} (ia : OkA X cl XE Φ G false exs es) (hl : exs.length ≤ LIM := by decide) : OkE X cl XE Φ G m (.lst exs) (.List es pos) := ok_lst hl ia
theorem x_cm {op : CmpOp} {ex : Ex} (h : OkCm X cl XE Φ G op ex a b) (hm : behindInMarks op b = false := by rfl) : OkE X cl XE Φ G m ex (.Compare a [op] [b] pos) := h.e hm
theorem t_cm {op : CmpOp} {ex : Ex} (h : OkCm X cl XE Φ G op ex a b) (hm : behindInMarks op b = false := by rfl) : OkT X cl XE Φ G (.leaf ex) (.Compare a [op] [b] pos) := h.t hm
theorem fT {ex : Ex} {e : Expr} (ia : OkE X cl XE Φ G true ex e) (he : ∀ whole, isTrue e X.env whole = (do let v ← whole; standAt e.pos; holding [v] (truthy v)) := by intro _; rfl) : OkT X cl XE Φ G (.leaf ex) e := ok_leaf he ia
theorem bD {i : Nat} {x : Str} (hN : X.N.Nodup) (hi : X.N[i]? = some x := by rfl) (hx : Loc X.env.scope x := by first | exact Or.inl rfl | exact Or.inr rfl) (hf : X.fn x = true ∨ X.env.scope.names.lookup x = some .local := by first | exact .inl rfl | exact .inr rfl) : OkG X cl [i] (gName i) (.Name x pos) := ok_g1 hN hi hx hf
theorem g_two {i j : Nat} {x y : Str} {k : Nat} {p1 p2 : Pos} (hN : X.N.Nodup) (hc : X.calm = true := by rfl) (hi : X.N[i]? = some x := by rfl) (hx : Loc X.env.scope x := by first | exact Or.inl rfl | exact Or.inr rfl) (hf : X.fn x = true ∨ X.env.scope.names.lookup x = some .local := by first | exact .inl rfl | exact .inr rfl)
  (hj : X.N[j]? = some y := by rfl) (hy : Loc X.env.scope y := by first | exact Or.inl rfl | exact Or.inr rfl) (hf2 : X.fn y = true ∨ X.env.scope.names.lookup y = some .local := by first | exact .inl rfl | exact .inr rfl) :
  OkG X cl [i, j] (gTup X.K 2 (gCons (gName i) (gCons (gName j) gNil))) (.Tuple [.Name x p1, .Name y p2] k pos) := ok_g2 hc hN hi hx hf hj hy hf2
theorem eP {tg : Expr} {p : Pos} (hm : X.mg "range" = none) (ia : OkE X cl XE Φ G m ea a) (hg : Gl X "range" := by rfl) (hs : starEach [a] X.env = [(false, eval a X.env)] := by rfl) : OkI X cl XE Φ G m .rng [ea] tg (.Call (.Name "range" p) [a] [] pos) := ok_rng hg hm hs ia
theorem iS {k : IterK} {its : List Ex} {caps : List Nat} {ntg : Nat} {cond : Option Tx} {elt : Ex} {g : TG} {tg iter e : Expr} {ifs : List Expr} {scope : Scope} (N' : List Str) (Sc : CompSc X N' caps ntg scope) (hi : OkI X cl XE Φ G true k its tg iter)
  (hg : ∀ cl' C s H fp, OkG (cxComp X N' scope cl' C s H fp fun _ _ => False) cl (List.range ntg) g tg)
  (ht : ∀ cl' C s H fp, OkC (cxComp X N' scope cl' C s H fp fun _ _ => False) cl (fun _ _ _ => False) Φ G cond ifs) (he : ∀ cl' C s H fp, OkE (cxComp X N' scope cl' C s H fp fun _ _ => False) cl (fun _ _ _ => False) Φ G false elt e)
  (hc : X.calm = true := by rfl) (hs : ∀ x, foldedSetIterable iter X.env x = pure x := by intro _; rfl) : OkE X cl XE Φ G m (.comp k its caps ntg cond elt) (.ListComp e [⟨tg, iter, ifs, 0⟩] scope pos) := ok_comp hc hi Sc hg ht he hs
theorem aP {σ : St} : PassAt (CXE X.prog X.w) X σ (XK1 cl fun c => (fun _ _ _ => False : Nat → St → Hp → Prop) c σ) := fun pins H s e s' I ⟨_, _, _, _, _, _, _, _, _, _, _, z⟩ => z.elim
theorem aS (hx : X.ex = []) (t : ToX X cl XE) (σ : St) : PassAt (CXE X.prog X.w) X σ (XK1 cl fun c => XE c σ) := fun pins H s e s' I z => pass_of hx t σ pins H s e s' I z
theorem aI {k : Nat} {fa : Addr} {fd : FuncData} {ps : List Str} {f : Nat} {x : Str} {p : Pos} {exs : List Ex} {e : Expr} {es : List Expr} (Fo : FnOk X.prog X.w X.K X.mg X.base (CXE X.prog X.w) k fa fd ps (spOf X.K cl Φ f)) (hr : Room k X.A) (hm : X.mg x = some (.ref fa)) (hk : PySem.W.keepIn X.K (.ref fa) = true) (hb : Binds X.K fd ps [])
  (hx : ∀ σ, PassAt (CXE X.prog X.w) X σ (XK1 cl fun c => XE c σ)) (ia : OkA X cl XE Φ G false exs (e :: es)) (hg : Gl X x := by rfl) (hdb : (x == ("__debug__" : Str)) = false := by decide) (he : starEach (e :: es) X.env = (false, eval e X.env) :: starEach es X.env := by rfl) (hpl : (backTo pos (starEach es X.env)).any (·.1) = false := by rfl) :
  OkE X cl XE Φ G m (.call f exs) (.Call (.Name x p) (e :: es) [] pos) := ok_call Fo hr hg hm hk hb hx hdb he hpl ia
theorem aJ {i : Nat} {x : Str} {ex : Ex} {e : Expr} {pos' : Pos} (hN : X.N.Nodup) (ie : OkE X cl XE Φ G false ex e) (hi : X.N[i]? = some x := by rfl) (hx : Loc X.env.scope x := by first | exact Or.inl rfl | exact Or.inr rfl) (hf : X.fn x = true ∨ X.env.scope.names.lookup x = some .local := by first | exact .inl rfl | exact .inr rfl) (hs : swapsWith e (some (.Name x pos')) pos.line X.env = pure false := by rfl) :
  OkS X cl XE Φ G n (.asg i ex) (.Assign [.Name x pos'] e pos) := oks_asg hN hi hx hf hs ie
theorem pR {k : IterK} {its : List Ex} {caps : List Nat} {ntg : Nat} {cond : Option Tx} {elt : Ex} {g : TG} {tg iter e : Expr} {ifs : List Expr} {scope : Scope} {py spos : Pos} {i : Nat} {y : Str} (N' : List Str) (Sc : CompSc X N' caps ntg scope) (hN : X.N.Nodup)
  (hi : OkI X cl XE Φ G true k its tg iter) (hg : ∀ cl' C s H fp, OkG (cxComp X N' scope cl' C s H fp fun _ _ => False) cl (List.range ntg) g tg)
  (ht : ∀ cl' C s H fp, OkC (cxComp X N' scope cl' C s H fp fun _ _ => False) cl (fun _ _ _ => False) Φ G cond ifs) (he : ∀ cl' C s H fp, OkE (cxComp X N' scope cl' C s H fp fun _ _ => False) cl (fun _ _ _ => False) Φ G false elt e)
  (hy : X.N[i]? = some y := by rfl) (hx : Loc X.env.scope y := by first | exact Or.inl rfl | exact Or.inr rfl) (hf : X.fn y = true ∨ X.env.scope.names.lookup y = some .local := by first | exact .inl rfl | exact .inr rfl) (hsw : swapsWith (.ListComp e [⟨tg, iter, ifs, 0⟩] scope pos) (some (.Name y py)) spos.line X.env = pure true := by rfl)
  (hc : X.calm = true := by rfl) (hs : ∀ x, foldedSetIterable iter X.env x = pure x := by intro _; rfl) : OkS X cl XE Φ G n (.asg i (.comp k its caps ntg cond elt)) (.Assign [.Name y py] (.ListComp e [⟨tg, iter, ifs, 0⟩] scope pos) spos) :=
 eO rfl (jP hN hy hx hf hsw hc hi Sc hg ht he hs)
theorem s_new {i : Nat} {x : Str} {pos' p : Pos} (hN : X.N.Nodup) (hi : X.N[i]? = some x := by rfl) (hx : Loc X.env.scope x := by first | exact Or.inl rfl | exact Or.inr rfl) (hf : X.fn x = true ∨ X.env.scope.names.lookup x = some .local := by first | exact .inl rfl | exact .inr rfl) (hs : swapsWith (.Dict [] [] p) (some (.Name x pos')) pos.line X.env = pure false := by rfl) :
  OkS X cl XE Φ G n (.new i) (.Assign [.Name x pos'] (.Dict [] [] p) pos) := oks_new hN hi hx hf hs
theorem pS {i : Nat} {x : Str} {ex : Ex} {e : Expr} {p apos cpos : Pos} (ie : OkE X cl XE Φ G false ex e) (hN : X.N[i]? = some x := by rfl) (hv : Vis X.env.scope x := by first | exact Or.inl rfl | exact Or.inr (Or.inl rfl) | exact Or.inr (Or.inr rfl)) (hd : (x == ("__debug__" : Str)) = false := by decide) (hcd : (x == ("__classdict__" : Str)) = false := by decide)
  (hbase : attributeBase (.Name x p) "append" X.env (eval (.Name x p) X.env) = eval (.Name x p) X.env := by rfl) (hline : (apos.endLine == cpos.line) = true := by rfl) (hs : starEach [e] X.env = [(false, eval e X.env)] := by rfl)
  (hsw : swapsWith (.Call (.Attribute (.Name x p) "append" apos) [e] [] cpos) none pos.line X.env = pure false := by rfl) : OkS X cl XE Φ G n (.app i ex) (.Expr (.Call (.Attribute (.Name x p) "append" apos) [e] [] cpos) pos) := oks_app hN hv hd hcd hbase hline hs hsw ie
theorem fU {i : Nat} {x : Str} {ex ix : Ex} {e ie : Expr} {p ps : Pos} (i1 : OkE X cl XE Φ G false ex e) (i2 : OkE X cl XE Φ G true ix ie) (hN : X.N[i]? = some x := by rfl) (hv : Vis X.env.scope x := by first | exact Or.inl rfl | exact Or.inr (Or.inl rfl) | exact Or.inr (Or.inr rfl)) (hd : (x == ("__debug__" : Str)) = false := by decide) (hcd : (x == ("__classdict__" : Str)) = false := by decide)
  (hsw : swapsWithSole [.Subscript (.Name x p) ie ps] e pos.line X.env = pure false := by rfl) (hw : swappedStores [.Subscript (.Name x p) ie ps] e X.env = pure none := by rfl) (h1 : (assignEach [.Subscript (.Name x p) ie ps] X.env).map (·.2) = [assign (.Subscript (.Name x p) ie ps) X.env] := by rfl)
  (ha : ∀ v, assign (.Subscript (.Name x p) ie ps) X.env v = (do
   let ov ← holding [v] (eval (.Name x p) X.env)
   let iv ← holding [v, ov] (eval ie X.env)
   standAt ps
   holding [v, ov, iv] (setItem ov iv v)
   release [v, ov, iv] []) := by intro _; rfl) : OkS X cl XE Φ G n (.put i ix ex) (.Assign [.Subscript (.Name x p) ie ps] e pos) := oks_put hN hv hd hcd hsw hw h1 ha i1 i2
theorem s_dput {i : Nat} {x : Str} {ex ix : Ex} {e ie : Expr} {p ps : Pos} (hu : X.A.units + 20 < cLine) (i1 : OkE X cl XE Φ G false ex e) (i2 : OkE X cl XE Φ G true ix ie) (hN : X.N[i]? = some x := by rfl) (hv : Vis X.env.scope x := by first | exact Or.inl rfl | exact Or.inr (Or.inl rfl) | exact Or.inr (Or.inr rfl)) (hd : (x == ("__debug__" : Str)) = false := by decide) (hcd : (x == ("__classdict__" : Str)) = false := by decide)
  (hs : swapsWith e (some (.Subscript (.Name x p) ie ps)) pos.line X.env = pure false := by rfl) : OkS X cl XE Φ G n (.dput i ix ex) (.Assign [.Subscript (.Name x p) ie ps] e pos) := pL (Nat.lt_of_le_of_lt (Nat.add_le_add_left (by decide) _) hu) hN hv hd hcd hs i1 i2
theorem bE {k : IterK} {its : List Ex} {tgs : List Nat} {body : List Sm} {g : TG} {tg iter : Expr} {b : List Stmt} (hi : OkI X.nox cl (fun _ _ _ => False) Φ G false k its tg iter) (hg : OkG X.nox cl tgs g tg) (hb : OkSs X.nox cl (fun _ _ _ => False) Φ G n body b) (hc : X.calm = true := by rfl) (hs : ∀ x, foldedSetIterable iter X.env x = pure x := by intro _; rfl) :
  OkS X cl XE Φ G n (.loop k its tgs body) (.For tg iter b [] pos) := pM hc hi hg hb hs
theorem iT {c : Nat} {x tx : Str} {bm bmN : List Value} {B Bn newId nid initId inN : String} {j : Nat} {p np cpos : Pos} (t : ToX X cl XE) (O : OwnCls x (cl c) bm newId X.mg X.base) (Fn : ExcBaseFacts Bn newId inN bmN) (hBn : bm.contains (.type Bn) = true) (FB : ExcBaseFacts B nid initId bm)
  (hc : X.calm = true := by rfl) (hx : X.ex = [] := by rfl) (hg : Gl X x := by rfl) (hdb : (x == ("__debug__" : Str)) = false := by decide) : OkS X cl XE Φ G n (.rai c) (.Raise (some (.Call (.Name x np) [.Constant (.str tx) j p] [] cpos)) none pos) := nD (oY hc hx t hg hdb O Fn hBn FB)
theorem s_tryAs {CE : Addr} {cn x : Str} {j : Nat} {np hpos : Pos} {body hb : List Sm} {cs : List Nat} {b suite : List Stmt} {b0 : Stmt} (hm : X.mg cn = some (.ref CE)) (hN : X.N.Nodup) (hcs : ∀ c ∈ cs, PySem.W.exmOne X.K (.ref (cl c)) (.ref CE) = some true) (ib : ∀ pins XH, OkSs (tryCx X cl pins XH) cl XH Φ G n body b) (ih : ∀ a, OkSs (hdCx X a) cl (fun _ _ _ => False) Φ G n hb (b0 :: suite))
  (hi : X.N[j]? = some x := by rfl) (hl : X.env.scope.names.lookup x = some .local := by rfl) (hx : X.ex = [] := by rfl) (hst : X.stack = X.env :: X.outer := by rfl) (hfm : X.env.frame = some X.env.locals := by rfl) (hg : Gl X cn := by rfl) (hdb : (cn == ("__debug__" : Str)) = false := by decide) :
  OkS X cl XE Φ G n (.tryx body cs (some j) hb) (.Try b [.ExceptHandler (some (.Name cn np)) (some x) (b0 :: suite) hpos] [] [] pos) := nG hx hst hfm hg hm hdb hN hi hl hcs ib ih
end
end L2.Snd
namespace L2.Snd
open PySem PySem.Spec PyProof.Rows L2 Py
theorem us1 {α : Type} : ∀ {us : List α}, us.length = 1 → ∃ a, us = [a]
 | [a], _ => ⟨a, rfl⟩
theorem us2 {α : Type} : ∀ {us : List α}, us.length = 2 → ∃ a b, us = [a, b]
 | [a, b], _ => ⟨a, b, rfl⟩
theorem us3 {α : Type} : ∀ {us : List α}, us.length = 3 → ∃ a b c, us = [a, b, c]
 | [a, b, c], _ => ⟨a, b, c, rfl⟩
theorem us4 {α : Type} : ∀ {us : List α}, us.length = 4 → ∃ a b c d, us = [a, b, c, d]
 | [a, b, c, d], _ => ⟨a, b, c, d, rfl⟩
def compScB (Nx : List Str) (kx : Str → Option NameKind) (N' : List Str) (caps : List Nat) (ntg : Nat) (scope : Scope) : Bool :=
 scope.kind == .function && scope.names.all (fun y => y.2 != .cell) && scope.names.all (fun y => y.2 != .local || scope.names.lookup y.1 == some .local)
  && scope.names.all (fun y => y.2 != .free || (kx y.1 == some .cell || kx y.1 == some .free)) && N'.length == ntg + caps.length
  && (List.range caps.length).all (fun i => match caps[i]?, N'[ntg + i]? with
   | some j, some x => Nx[j]? == some x && scope.names.lookup x == some .free
   | _, _ => true)
theorem bL {X : Cx} {N' : List Str} {caps : List Nat} {ntg : Nat} {scope : Scope} (h : compScB X.N X.env.kindOf N' caps ntg scope = true) : CompSc X N' caps ntg scope := by
 unfold compScB at h
 simp only [Bool.and_eq_true, List.all_eq_true, Bool.or_eq_true, bne_iff_ne, beq_iff_eq] at h
 obtain ⟨⟨⟨⟨⟨h1, h2⟩, h3⟩, h4⟩, h5⟩, h6⟩ := h
 refine ⟨h1, h2, fun y hy e => (h3 y hy).resolve_left fun z => z e, fun y hy e => (h4 y hy).resolve_left fun z => z e, h5, fun i j x e1 e2 => ?_⟩
 have hi : i < caps.length := (List.getElem?_eq_some_iff.mp e1).1
 have z := h6 i (List.mem_range.mpr hi)
 rw [e1, e2] at z
 simp only [Bool.and_eq_true, beq_iff_eq] at z
 exact z
theorem eU : bootBuiltins "ValueError" = some (.type "ValueError") := by first | rfl | decide +kernel
theorem cD {K : PySem.W.Frag} {c d : Addr} {b : Bool} {cd : ClassData} (h1 : PySem.W.clsIn K d = some cd) (h2 : PySem.W.typeIn K (.ref d) = some (.type "type")) (h3 : PySem.W.subIn K (.ref c) (.ref d) = some b) (h4 : PySem.W.subIn K (.ref d) (.ref d) = some true) : PySem.W.kitOne K (.ref c) (.ref d) = some b := by
 unfold PySem.W.kitOne
 by_cases e : c = d
 ·subst e
  rw [h4] at h3
  cases h3
  rw [if_pos (by simp)]
 ·rw [if_neg (by simpa using e)]
  unfold PySem.W.kitCls
  dsimp only
  rw [h1, h2, if_pos (by simp)]
  exact h3
theorem pT {K : PySem.W.Frag} {c : Addr} {b : Bool} (h3 : PySem.W.subIn K (.ref c) (.type "ValueError") = some b) : PySem.W.kitOne K (.ref c) (.type "ValueError") = some b := by
 unfold PySem.W.kitOne
 rw [if_neg (by simp)]
 unfold PySem.W.kitCls
 have : PySem.W.kitMeta "ValueError" = true := by decide +kernel
 show (if PySem.W.kitMeta "ValueError" = true then _ else _) = _
 rw [if_pos this]
 exact h3
theorem pU {K : PySem.W.Frag} {c d : Addr} {cd : ClassData} (h0 : PySem.W.subIn K (.ref d) (.type "BaseException") = some true) (h1 : PySem.W.clsIn K d = some cd) (h2 : PySem.W.typeIn K (.ref d) = some (.type "type")) (h3 : PySem.W.subIn K (.ref c) (.ref d) = some true) : PySem.W.exmOne K (.ref c) (.ref d) = some true := by
 unfold PySem.W.exmOne
 rw [h0, if_pos (by simp)]
 unfold PySem.W.kitCls
 dsimp only
 rw [h1, h2, if_pos (by simp)]
 exact h3
theorem walk_law {l : PySem.W.OpenLaw} {q : Program} {loose : List Str} {XP : (Str → Option Value) → Heap → Prop} {YP : World → Heap → Prop} {d : DefRec} {K : Params → PySem.W.Frag} {Pg : Prog} {f j : Nat} (ht : ∀ ns : List Int, ns.length ≤ 63 → Phi Pg j f [.scr ns] = .ok (.bl true))
  (hn : l.most = some 63) (hdf : d.params.defaults = []) (hY : ∀ (w : World) (h : Heap), YP w h → (K w.params).In h)
  (F : ∀ (w : World) (mg mb : Str → Option Value) (mean : ExcName → Option Value) (fa : Addr) (h : Heap), (K w.params).In h → Top q (PySem.W.looseW q loose) mean mg mb h → mg d.name = some (.ref fa) →
   ∃ (fd : FuncData) (cl : Nat → Addr), (∀ (s : Shared) (u : Value), BindsTo s fd ⟨[u], []⟩ [("script", u)]) ∧ ∀ base : Heap, (K w.params).In base → base.Ns mainGlobals mg → (∀ b o, h.get? b = some o → (∀ its n, o.data ≠ .seq its n) → base.get? b = some o) →
    FnOk l.prog w (K w.params) mg base (CXE l.prog w) (j + 1) fa fd ["script"] (spOf (K w.params) cl (Phi Pg j) f)) (hj : j ≤ 30) :
  PySem.W.WalkO q loose XP YP l.row.toRowW d [] (fun f vs => PySem.call f vs) := by
 refine Att.attach_call hn hdf fun w s₀ s₁ mg mb fa o pm cd doc a vs ns G Y ho hd hcd hmg hobj hints hlen hg => ?_
 have KX := hY w _ Y
 obtain ⟨fd, cl, hb, hF⟩ := F w mg mb _ fa _ KX G.T hmg
 have hr : Room (j + 1) callerA := by
  have r : Room 31 callerA := ⟨rfl, by decide, by decide⟩
  exact r.mono (by omega)
 exact nI KX G.T.g G.T.b G.T.builtins G.T.nolimit hg hobj hints (Nat.le_trans hlen (by decide)) hr hF hb (fun H hO hS => sp_law (ht ns hlen) hO hS) fun H e s' z => no_cxe z
end L2.Snd
namespace L2.Snd
open PySem PySem.Spec PyProof.Rows L2 Py
variable {X : Cx} {cl : Nat → Addr} {XE : Nat → St → Hp → Prop} {YE : Nat → Hp → Prop} {Φ : Nat → List D → R D} {G : List D} {n : Nat} {m fr : Bool}
variable {ea eb : Ex} {a b : Expr} {pos : Pos}
end L2.Snd
namespace L2.Snd
open PySem PySem.Spec PyProof.Rows L2 Py
section
variable {X : Cx} {cl : Nat → Addr} {XE : Nat → St → Hp → Prop} {YE : Nat → Hp → Prop} {Φ : Nat → List D → R D} {G : List D} {n : Nat} {m fr : Bool}
end
end L2.Snd
namespace L2.Snd
open PySem PySem.Spec PyProof.Rows L2 Py
section
variable {X : Cx} {cl : Nat → Addr} {XE : Nat → St → Hp → Prop} {YE : Nat → Hp → Prop} {Φ : Nat → List D → R D} {G : List D} {n : Nat} {m fr : Bool}
end
end L2.Snd
namespace L2.Snd
open PySem PySem.Spec PyProof.Rows L2 Py
section
variable {X : Cx} {cl : Nat → Addr} {XE : Nat → St → Hp → Prop} {YE : Nat → Hp → Prop} {Φ : Nat → List D → R D} {G : List D} {n : Nat} {m fr : Bool}
end
end L2.Snd
namespace L2.Snd
open PySem PySem.Spec PyProof.Rows L2 Py
structure Nest (H : Hp) (L : Addr) (as : List Addr) (R : List (List Int)) : Prop where
 top : H L = some (.lst (as.map V.ref))
 len : as.length = R.length
 row : ∀ (j : Nat) a r, as[j]? = some a → R[j]? = some r → H a = some (.lst (r.map V.int))
 nd : as.Nodup
 ne : ∀ a ∈ as, a ≠ L
theorem Nest.same {H H' : Hp} {L : Addr} {as : List Addr} {R : List (List Int)} (n : Nest H L as R) (s : Same H H') : Nest H' L as R :=
 ⟨s _ _ n.top, n.len, fun j a r h1 h2 => s _ _ (n.row j a r h1 h2), n.nd, n.ne⟩
section
variable {X : Cx} {cl : Nat → Addr} {XE : Nat → St → Hp → Prop} {YE : Nat → Hp → Prop} {Φ : Nat → List D → R D} {G : List D} {n : Nat} {m fr : Bool}
theorem fV {K : PySem.W.Frag} {F : Addr → Prop} {H : Hp} : ∀ {r : List Int} {ws : List V}, Reps K cl F H (r.map D.int) ws → ws = r.map V.int
 | [], ws, h => by simpa [Reps] using h
 | x :: r, ws, h => by
  obtain ⟨v, t, rfl, h1, h2⟩ := Reps.cons_inv (by simpa using h)
  have h1 : v = .int x := by simpa only [Rep] using h1
  rw [h1, fV h2]; rfl
theorem Same.up1 {F : Addr → Prop} {H H' : Hp} (h : Same H H') : Up F H F H' := ⟨h, fun _ z => z, fun _ z => .inl z⟩
end
end L2.Snd
namespace L2.Snd
open PySem PySem.Spec PyProof.Rows L2 Py
structure Nest2 (H : Hp) (L P : Addr) (nL : Nat) (bs : List Addr) (RR : List (List Int)) : Prop where
 topL : H L = some (.lst ((bs.take nL).map V.ref))
 topP : H P = some (.lst ((bs.drop nL).map V.ref))
 len : bs.length = RR.length
 row : ∀ (j : Nat) a r, bs[j]? = some a → RR[j]? = some r → H a = some (.lst (r.map V.int))
 nd : bs.Nodup
 neL : ∀ a ∈ bs, a ≠ L
 neP : ∀ a ∈ bs, a ≠ P
 ne : L ≠ P
section
variable {cl : Nat → Addr} {K : PySem.W.Frag}
end
end L2.Snd
namespace L2.Snd
open PySem PySem.Spec PyProof.Rows L2 Py
section
variable {cl : Nat → Addr} {K : PySem.W.Frag} {Φ : Nat → List D → R D} {G : List D}
end
structure RowSt (σ : St) (H : Hp) (L P : Addr) (nL : Nat) (bs : List Addr) (RR : List (List Int)) (j : Nat) (a : Addr) (r : List Int) (k : Nat) (old new : Int) : Prop where
 len : σ.length = 8
 s2 : σ[2]? = some (some (.ref P))
 s4 : σ[4]? = some (some (.int (k : Nat)))
 s5 : σ[5]? = some (some (.int old))
 s6 : σ[6]? = some (some (.ref a))
 nest : Nest2 H L P nL bs RR
 at_ : bs[j]? = some a
 row : RR[j]? = some r
 hd : ∃ rest, RR[nL + k]? = some (new :: rest)
 nj : j ≠ nL + k
 small : r.length ≤ 1000
end L2.Snd
namespace L2.Snd
open PySem PySem.Spec PyProof.Rows L2 Py
structure MidSt (σ : St) (H : Hp) (L P : Addr) (nL : Nat) (bs : List Addr) (RR : List (List Int)) (k : Nat) (old new : Int) : Prop where
 len : σ.length = 8
 s2 : σ[2]? = some (some (.ref P))
 s3 : σ[3]? = some (some (.ref L))
 s4 : σ[4]? = some (some (.int (k : Nat)))
 s5 : σ[5]? = some (some (.int old))
 nest : Nest2 H L P nL bs RR
 hd : ∃ rest, RR[nL + k]? = some (new :: rest)
 many : bs.length ≤ 1000
 small : ∀ r ∈ RR, r.length ≤ 1000
end L2.Snd
namespace L2.Snd
open PySem PySem.Spec PyProof.Rows L2 Py
structure Shape (nL np : Nat) (RR : List (List Int)) : Prop where
 len : RR.length = nL + np
 two : ∀ j r, nL ≤ j → RR[j]? = some r → r.length = 2
 small : ∀ r ∈ RR, r.length ≤ 1000
end L2.Snd
namespace L2.Snd
open PySem PySem.Spec PyProof.Rows L2 Py
section
variable {Φ : Nat → List D → R D} {G : List D}
end
end L2.Snd
namespace L2.Snd
open PySem PySem.Spec PyProof.Rows L2 Py
structure OutSt (σ : St) (H : Hp) (L P : Addr) (nL np : Nat) (bs : List Addr) (s : List (List Int) × Int) : Prop where
 len : σ.length = 8
 s1 : σ[1]? = some (some (.int s.2))
 s2 : σ[2]? = some (some (.ref P))
 s3 : σ[3]? = some (some (.ref L))
 nest : Nest2 H L P nL bs s.1
 shape : Shape nL np s.1
 many : bs.length ≤ 1000
end L2.Snd
namespace L2.Snd
open PySem PySem.Spec PyProof.Rows L2 Py
section
variable {X : Cx} {cl : Nat → Addr} {XE : Nat → St → Hp → Prop} {Φ : Nat → List D → R D} {G : List D} {n : Nat}
end
end L2.Snd
namespace L2.Snd
open PySem PySem.Spec PyProof.Rows L2 Py
section
variable {X : Cx} {cl : Nat → Addr} {Φ : Nat → List D → R D} {G : List D} {n : Nat}
end
end L2.Snd
namespace L2.Snd
open PySem PySem.Spec PyProof.Rows L2 Py
section
variable {X : Cx} {cl : Nat → Addr} {XE : Nat → St → Hp → Prop} {Φ : Nat → List D → R D} {G : List D} {n : Nat}
end
end L2.Snd
namespace L2.Snd
open PySem PySem.Spec PyProof.Rows L2 Py
theorem bF {N P : List Str} {sc : Scope} (h1 : sc.kind = .function := by rfl) (h2 : sc.isCoroutine = false := by rfl) (h3 : sc.isGenerator = false := by rfl) (h4 : N.Nodup := by decide +kernel) (h5 : N.take P.length = P := by rfl) (h6 : ∀ x ∈ P, sc.names.lookup x = some .local ∨ sc.names.lookup x = some .cell := by decide +kernel) (h7 : ∀ y ∈ sc.names, y.2 ≠ .free := by decide +kernel) : FnScope N P sc := ⟨h1, h2, h3, h4, h5, h6, h7⟩
theorem aR {j : Nat} {A : Around} (hr : Room (j + 1) A) : A.units + 20 < cLine := Nat.lt_of_le_of_lt (Nat.add_le_add_left (by decide) _) hr.units
section
variable {X : Cx} {cl : Nat → Addr} {XE : Nat → St → Hp → Prop} {Φ : Nat → List D → R D} {G : List D} {n : Nat} {m : Bool}
end
end L2.Snd
namespace L2
open PySem PySem.Spec PyProof.Rows
section
variable {X : Cx} {pins : List (Addr × Obj)} {σ : St} {H : Hp} {s : Shared} {d : Addr} {o : Obj} {u u' : HO} {kvs : List (Key × V)}
end
end L2
namespace L2.Snd
open PySem PySem.Spec PyProof.Rows L2 Py
section
variable {X : Cx} {cl : Nat → Addr} {XE : Nat → St → Hp → Prop} {YE : Nat → Hp → Prop} {Φ : Nat → List D → R D} {G : List D} {n : Nat} {m fr : Bool}
end
end L2.Snd
namespace L2.Snd
open PySem PySem.Spec PyProof.Rows L2 Py
section
variable {X : Cx} {cl : Nat → Addr} {XE : Nat → St → Hp → Prop} {Φ : Nat → List D → R D} {G : List D} {m : Bool}
end
end L2.Snd
namespace L2.Snd
open PySem PySem.Spec PyProof.Rows L2 Py
section
variable {X : Cx} {cl : Nat → Addr} {XO : Nat → Hp → Prop} {Φ : Nat → List D → R D} {G : List D} {m fr : Bool}
theorem kT {it : Ex} {caps : List Nat} {f : Nat} {es : List Ex} {wi : TI}
  (hw : ∀ F σ δ H R, Sees X.K cl F H σ δ → Meet ((evs Φ G true [it] δ).bind (itemsD .seq)) (fun xs => ∀ F' H' J P, Up F H F' H' → Wk X.K cl true J xs P → P F' H' → R J H') (fun c => ∀ F' H', Up F H F' H' → XO c H') → wi σ H R)
  {F : Addr → Prop} {σ : St} {δ : Sto} {H : Hp} {Q : VK} (S : Sees X.K cl F H σ δ) (h : Post X.K cl XO m true F H Q (ev Φ G m (.mapx it caps f es) δ)) :
  tComp wi (gName 0) (fun σ H Q => Q true H) (tE X.K cl (fun c _ H' => XO c H') Φ G false (.call f es)) caps 1 σ H Q := by
 simp only [ev] at h
 generalize hf : (fun x => (evs Φ G false es (some (false, x) :: capOf δ caps)).bind fun as => (Φ f as).bind fun y => (.ok (some y) : R (Option D))) = g at h
 have h0 : Meet ((evs Φ G true [it] δ).bind (itemsD .seq)) (fun xs => xs.length ≤ LIM ∧ Meet (compM g xs) (fun ys => Post X.K cl XO m true F H Q (.ok (.lst ys))) (fun c => ∀ F' H', Up F H F' H' → XO c H')) (fun c => ∀ F' H', Up F H F' H' → XO c H') := by
  simp only [evs]
  cases e : ev Φ G true it δ with
  | exc c => rw [e] at h; exact h
  | bad => rw [e] at h; exact h
  | ok s =>
   rw [e] at h
   have h' : Meet ((itemsD .seq [s]).bind fun xs => (compM g xs).bind fun ys => R.ok (D.lst ys)) (fun d => ∀ F' v H', Up F H F' H' → Gives X.K cl m true F' H H' d v → Q v H') (fun c => ∀ F' H', Up F H F' H' → XO c H') := h
   have h1 := Meet.bind h'
   show Meet (itemsD .seq [s]) _ _
   cases e2 : itemsD .seq [s] with
   | exc c => rw [e2] at h1; exact h1
   | bad => rw [e2] at h1; exact h1
   | ok xs =>
    rw [e2] at h1
    refine ⟨?_, Meet.bind h1⟩
    unfold itemsD at e2
    cases e3 : items0 .seq [s] with
    | ok ys =>
     rw [e3] at e2
     simp only [R.bind_ok] at e2
     by_cases hc : ys.length ≤ LIM
     ·rw [if_pos hc] at e2; cases e2; exact hc
     ·rw [if_neg hc] at e2; cases e2
    | exc c => rw [e3] at e2; cases e2
    | bad => rw [e3] at e2; cases e2
 clear h
 unfold tComp
 refine hw F σ δ H _ S (Meet.mono h0 (fun xs _ hx F1 H1 J P u1 W1 p1 q hq => ?_) fun c z => z)
 obtain ⟨hlen, hx⟩ := hx
 have nq : ∀ b o, H1 b = some o → b ≠ q := fun b o e z => by rw [z, hq] at e; cases e
 have nF1 : ¬ F1 q := (S.up u1).trk.fresh hq
 refine ⟨fun i n σ' H' => n = xs.length - i ∧ i ≤ xs.length ∧ σ'.length = 1 + caps.length ∧ (∀ j, 1 ≤ j → σ'[j]? = (capS σ caps 1)[j]?) ∧
  ∃ F' ys ds, Up F1 H1 F' H' ∧ ¬ F' q ∧ H' q = some (.lst ys) ∧ Reps X.K cl F' H' ds ys ∧ ds.length ≤ i ∧ Meet (compM g (xs.drop i)) (fun rest => Post X.K cl XO m true F H Q (.ok (.lst (ds ++ rest)))) (fun c => ∀ F' H', Up F H F' H' → XO c H'), ⟨xs.length, ?_⟩, ?_⟩
 ·exact ⟨by simp, Nat.zero_le _, by simp [capS, Nat.add_comm], fun j _ => rfl, F1, [], [], Up.alloc hq, nF1, aO, Reps.nil, Nat.le_refl _, by simpa using hx⟩
 ·rintro i n σ' H' ⟨rfl, hi, hl, hc, F', ys, ds, u2, nF, hqs, r2, hdl, hcm⟩
  have pH : P F' H' := W1.st F1 H1 F' H' p1 (by unfold Stb; rw [if_pos rfl]; exact u2.same) u2.sub
  by_cases hlt : i < xs.length
  ·refine .inr ?_
   obtain ⟨go, yl⟩ := W1.go F' H' i xs[i] pH (by simp [hlt])
   refine ⟨go, fun v H2 hy => ?_⟩
   obtain ⟨u3, rx⟩ := yl v H2 hy
   have hd : xs.drop i = xs[i] :: xs.drop (i + 1) := List.drop_eq_getElem_cons hlt
   rw [hd] at hcm
   simp only [compM] at hcm
   have u3' : Up F1 H1 F' H2 := u2.trans u3
   have S2 : Sees X.K cl F' H2 (setsV σ' (List.range 1) [v]) ([xs[i]].map (fun t => some (false, t)) ++ capOf δ caps) := jO S (u1.trans u3') hl hc rfl (Reps.cons rx Reps.nil)
   have hl2 : (σ'.set 0 (some v)).length = 1 + caps.length := by rw [List.length_set]; exact hl
   have hc2 : ∀ j, 1 ≤ j → (σ'.set 0 (some v))[j]? = (capS σ caps 1)[j]? := fun j hj => by
    rw [List.getElem?_set_ne (by omega)]; exact hc j hj
   have hq2 : H2 q = some (.lst ys) := u3.same _ _ hqs
   show tE X.K cl (fun c _ H' => XO c H') Φ G false (.call f es) (σ'.set 0 (some v)) H2 _
   refine ⟨F', some (false, xs[i]) :: capOf δ caps, S2, ?_⟩
   have hg : g xs[i] = (ev Φ G false (.call f es) (some (false, xs[i]) :: capOf δ caps)).bind fun y => .ok (some y) := by
    rw [← hf]
    simp only [ev]
    cases evs Φ G false es (some (false, xs[i]) :: capOf δ caps) <;> rfl
   rw [hg] at hcm
   have hm : Meet (ev Φ G false (.call f es) (some (false, xs[i]) :: capOf δ caps)) (fun y => Meet (compM g (xs.drop (i + 1))) (fun rest => Post X.K cl XO m true F H Q (.ok (.lst (ds ++ y :: rest)))) (fun c => ∀ F' H', Up F H F' H' → XO c H')) (fun c => ∀ F' H', Up F H F' H' → XO c H') := by
    cases e : ev Φ G false (.call f es) (some (false, xs[i]) :: capOf δ caps) with
    | exc c => rw [e] at hcm; exact hcm
    | bad => rw [e] at hcm; exact hcm
    | ok y =>
     rw [e] at hcm
     have hcm' : Meet ((compM g (xs.drop (i + 1))).bind fun ys => .ok (y :: ys)) _ _ := hcm
     have hb := Meet.bind hcm'
     exact hb
   refine Meet.mono hm (fun y _ hy2 F4 w H4 u5 gv => ?_) fun c z F4 H4 u5 => z F4 H4 ((u1.trans u3').trans u5)
   unfold Gives at gv
   rw [if_neg Bool.false_ne_true] at gv
   obtain ⟨F5, u6, sub5, rw'⟩ := gv.keep u5
   have hq4 : H4 q = some (.lst ys) := u6.same _ _ hq2
   have nF5 : ¬ F5 q := fun z => (u6.new q z).elim nF fun y => by rw [hq2] at y; cases y.1
   have r4 : Reps X.K cl F5 H4 ds ys := (r2.up u3).up u6
   have pr : Pres F5 H4 (L2.upd H4 q (.lst (ys ++ [w]))) := Pres.upd nF5 (fun zs e => by rw [hq4] at e; cases e) (fun o u e => by rw [hq4] at e; cases e)
   have u7 : Up F1 H1 F5 H4 := u3'.trans u6
   refine ⟨ys, xs.length - (i + 1), hq4, ?_, by omega, rfl, hlt, hl2, hc2, F5, ys ++ [w], ds ++ [y], ⟨fun b o e => ?_, u7.sub, fun a z => ?_⟩, nF5, aO, ?_, ?_, ?_⟩
   ·rw [r4.length]; exact Nat.lt_of_le_of_lt (Nat.le_trans hdl (Nat.le_of_lt hlt)) (Nat.lt_of_le_of_lt hlen (by decide))
   ·rw [aL (nq b o e)]; exact u7.same b o e
   ·rcases u7.new a z with y | ⟨y1, y2⟩
    ·exact .inl y
    ·refine .inr ⟨y1, ?_⟩
     rw [aL (by rintro rfl; exact nF5 z)]; exact y2
   ·exact (r4.mono pr fun _ z => z).append (Reps.cons (rw'.mono pr fun _ z => z) Reps.nil)
   ·rw [List.length_append, List.length_singleton]; omega
   ·refine Meet.mono hy2 (fun rest _ z => ?_) fun c z => z
    rw [List.append_assoc]; exact z
  ·have hi' : i = xs.length := by omega
   subst hi'
   refine .inl ⟨W1.stop F' H' pH, ?_⟩
   rw [List.drop_length] at hcm
   have hcm : Post X.K cl XO m true F H Q (.ok (.lst (ds ++ []))) := hcm
   rw [List.append_nil] at hcm
   refine hcm F' (.ref q) H' (u1.trans u2) (Res.gives ?_)
   unfold Res
   rw [if_pos (by simp [isOwn])]
   exact ⟨q, rfl, u1.same.free hq, nF, ys, hqs, r2⟩
theorem s_mapx {it : Ex} {caps : List Nat} {f : Nat} {es : List Ex} {tg iter e : Expr} {scope : Scope} {pos py spos : Pos} {L : Addr} {i : Nat} {y : Str} {n : Nat} (N' : List Str) (Sc : CompSc X N' caps 1 scope) (hN : X.N.Nodup) (tX : ToG X cl (fun c _ H => XO c H))
  (hi : OkI X cl (fun c _ H => XO c H) Φ G true .seq [it] tg iter) (hg : ∀ cl' C s H fp E, OkG (cxComp X N' scope cl' C s H fp E) cl [0] (gName 0) tg)
  (he : ∀ cl' C s H fp E, PassC (cxComp X N' scope cl' C s H fp E) cl XO → OkE (cxComp X N' scope cl' C s H fp E) cl (fun c _ H => XO c H) Φ G false (.call f es) e)
  (hx : X.ex = [] := by rfl) (hst : X.stack = X.env :: X.outer := by rfl) (hfm : X.env.frame = some L := by rfl)
  (hy : X.N[i]? = some y := by rfl) (hxy : Loc X.env.scope y := by first | exact Or.inl rfl | exact Or.inr rfl) (hf : X.fn y = true ∨ X.env.scope.names.lookup y = some .local := by first | exact .inl rfl | exact .inr rfl) (hsw : swapsWith (.ListComp e [⟨tg, iter, [], 0⟩] scope pos) (some (.Name y py)) spos.line X.env = pure true := by rfl)
  (hc : X.calm = true := by rfl) (hs : ∀ x, foldedSetIterable iter X.env x = pure x := by intro _; rfl) : OkS X cl (fun c _ H => XO c H) Φ G n (.asg i (.mapx it caps f es)) (.Assign [.Name y py] (.ListComp e [⟨tg, iter, [], 0⟩] scope pos) spos) := by
 obtain ⟨wi, pi, hw⟩ := hi
 refine eO rfl ⟨_, iM (clx := cl) (XE := fun c _ H => XO c H) (tc := fun σ H Q => Q true H) (te := tE X.K cl (fun c _ H' => XO c H') Φ G false (.call f es)) hN hy hxy hf hsw hc pi Sc hx hst hfm tX (fun cl' C s H fp E => (hg cl' C s H fp E).1) (fun cl' C s H fp E => lW) (fun _ cl' C s H fp E z => (he cl' C s H fp E z).pe) hs, fun F σ δ H Q S h => ?_⟩
 exact kT hw S h
theorem pass_c (h : PassC X cl XO) (σ : St) : PassAt (CXE X.prog X.w) X σ (XK1 cl fun c => XO c) := fun pins H s e s' I z => h pins σ H s e s' I z
end
end L2.Snd
namespace L2
open PySem PySem.Spec PyProof.Rows
theorem dH : ∀ {ys : List Int} {its : List Value}, Vals (ys.map V.int) its → ∃ ps : List (Int × Tok), its = ps.map (fun p => Value.int p.1 p.2) ∧ ps.map (·.1) = ys
 | [], its, r => by cases r; exact ⟨[], rfl, rfl⟩
 | y :: ys, its, r => by
  cases r with
  | cons r1 r2 =>
   obtain ⟨t, rfl⟩ := r1
   obtain ⟨ps, rfl, rfl⟩ := dH r2
   exact ⟨(y, t) :: ps, rfl, rfl⟩
theorem valsInts : ∀ {ys : List Int} {its : List Value}, Vals (ys.map V.int) its → IntsAre its ys
 | [], its, r => by cases r; exact .nil
 | y :: ys, its, r => by
  cases r with
  | cons r1 r2 =>
   obtain ⟨t, rfl⟩ := r1
   exact .cons y t (valsInts r2)
variable {X : Cx}
theorem bM {ps : List (Int × Tok)} {i : Nat} (h : i < ps.length) : numAt ps.toArray i = (ps.map (·.1))[i]'(by simpa using h) := by
 simp [numAt, h]
theorem nK (hc : X.calm = true) : CallR X (.builtin "min") (fun xs H Q => ∃ (p : Addr) (ys : List Int), xs = [.ref p] ∧ SqL X.K H p (ys.map V.int) ∧ 0 < ys.length ∧ ∀ M, M ∈ ys → (∀ a ∈ ys, M ≤ a) → Q (.int M) H) := by
 intro pins s σ H xs us Q I r h
 obtain ⟨p, ys, rfl, hq, hl, q⟩ := h
 obtain ⟨u, rfl, rx⟩ := vals1 r
 cases rx
 obtain ⟨its, r', pl, hz⟩ := I.list hq
 obtain ⟨ps, rfl, rfl⟩ := dH r'
 have hn : 0 < ps.length := by simpa using hl
 refine min_intList (xs := ps.toArray) (I.ok.hd hc) (by have := pl.isList; simpa [intItems] using this) (by simpa using hn) fun v h' tk hv k => ?_
 obtain ⟨b1, b2⟩ := argBest_lt (numAt ps.toArray) (ps.toArray.size - 1)
 generalize argBest (fun i j => decide (numAt ps.toArray i < numAt ps.toArray j)) (ps.toArray.size - 1) = j at *
 have hj : j < ps.length := by simp at b1; omega
 have hv' : v = .int (numAt ps.toArray j) (ps[j].2) := by
  have : (ps.map fun p => Value.int p.1 p.2)[j]? = some v := by simpa [intItems] using hv
  rw [List.getElem?_map, List.getElem?_eq_getElem hj] at this
  rw [bM hj]
  simpa using this.symm
 subst hv'
 refine ⟨.int (numAt ps.toArray j), H, I.kept k, ⟨_, rfl⟩, q _ ?_ fun a ha => ?_⟩
 ·rw [bM hj]; exact List.getElem_mem _
 ·obtain ⟨i, hi, rfl⟩ := List.mem_iff_getElem.mp ha
  have hi' : i < ps.length := by simpa using hi
  rw [← bM hi']
  exact b2 i (by simp; omega)
theorem nM (hc : X.calm = true) : CallR X (.builtin "max") (fun xs H Q => ∃ (p : Addr) (ys : List Int), xs = [.ref p] ∧ SqL X.K H p (ys.map V.int) ∧ 0 < ys.length ∧ ∀ M, M ∈ ys → (∀ a ∈ ys, a ≤ M) → Q (.int M) H) := by
 intro pins s σ H xs us Q I r h
 obtain ⟨p, ys, rfl, hq, hl, q⟩ := h
 obtain ⟨u, rfl, rx⟩ := vals1 r
 cases rx
 obtain ⟨its, r', pl, hz⟩ := I.list hq
 obtain ⟨ps, rfl, rfl⟩ := dH r'
 have hn : 0 < ps.length := by simpa using hl
 refine max_intList (xs := ps.toArray) (I.ok.hd hc) (by have := pl.isList; simpa [intItems] using this) (by simpa using hn) fun v h' tk hv k => ?_
 obtain ⟨b1, b2⟩ := argBest_gt (numAt ps.toArray) (ps.toArray.size - 1)
 generalize argBest (fun i j => decide (numAt ps.toArray i > numAt ps.toArray j)) (ps.toArray.size - 1) = j at *
 have hj : j < ps.length := by simp at b1; omega
 have hv' : v = .int (numAt ps.toArray j) (ps[j].2) := by
  have : (ps.map fun p => Value.int p.1 p.2)[j]? = some v := by simpa [intItems] using hv
  rw [List.getElem?_map, List.getElem?_eq_getElem hj] at this
  rw [bM hj]
  simpa using this.symm
 subst hv'
 refine ⟨.int (numAt ps.toArray j), H, I.kept k, ⟨_, rfl⟩, q _ ?_ fun a ha => ?_⟩
 ·rw [bM hj]; exact List.getElem_mem _
 ·obtain ⟨i, hi, rfl⟩ := List.mem_iff_getElem.mp ha
  have hi' : i < ps.length := by simpa using hi
  rw [← bM hi']
  exact b2 i (by simp; omega)
theorem nN (hc : X.calm = true) : CallR X (.type "set") (fun xs H Q => ∃ (p : Addr) (ys : List Int), xs = [.ref p] ∧ SqL X.K H p (ys.map V.int) ∧ ys.length ≤ 100 ∧ ∀ l S, H l = none → Q (.ref l) (upd H l (.set S (firstMet (fun i => ys.getD i 0) ys.length).length))) := by
 intro pins s σ H xs us Q I r h
 obtain ⟨p, ys, rfl, hq, hl, q⟩ := h
 obtain ⟨u, rfl, rx⟩ := vals1 r
 cases rx
 obtain ⟨its, r', pl, hz⟩ := I.list hq
 have hlen : its.length = ys.length := by have := r'.length; simpa using this.symm
 refine call_set_list (ns := ys) (I.ok.hd hc) pl.isList (valsInts r') (by
  have : (200 : Nat) < scanBound := by decide
  simp only [List.size_toArray, hlen]; omega) fun h' tk so k => ?_
 have e : its.toArray.size = ys.length := by simpa using hlen
 rw [e] at so
 exact ⟨.ref s.heap.objs.size, _, I.laid (o := .set (fun k' => (firstMet (fun i => ys.getD i 0) ys.length).any fun x => x == k') (firstMet (fun i => ys.getD i 0) ys.length).length) (fun b u z => k b u (Heap.lt_size z) z) (Nat.le_refl _) so, rfl, q _ _ (I.hok.fresh (Nat.le_refl _))⟩
theorem nO : CallR X (.builtin "len") (fun xs H Q => ∃ (a : Addr) (S : Int → Bool) (n : Nat), xs = [.ref a] ∧ H a = some (.set S n) ∧ Q (.int n) H) := by
 intro pins s σ H xs us Q I r h
 obtain ⟨a, S, n, rfl, hq, q⟩ := h
 obtain ⟨u, rfl, rx⟩ := vals1 r
 cases rx
 obtain ⟨o, es, ep, t, e, ex, d, _, _, sb, ft, rfl⟩ : s.heap.SetOf (intKind X.prog X.w) a S n := I.hok a _ hq
 have hb : (es.size : Int) < 2 ^ 63 := by
  have : scanBound ≤ 2 ^ 40 := by decide
  omega
 exact call_len_set e ex d ft hb ⟨.int es.size, H, I.tok _, ⟨_, rfl⟩, q⟩
end L2
namespace L2.Snd
open PySem PySem.Spec PyProof.Rows L2 Py
theorem cF : ∀ {xs : List D} {r : List Int}, intsOf xs = some r → xs = r.map D.int
 | [], r, h => by simp only [intsOf] at h; cases h; rfl
 | d :: xs, r, h => by
  cases d with
  | int i =>
   simp only [intsOf] at h
   cases e : intsOf xs with
   | none => rw [e] at h; cases h
   | some q => rw [e] at h; cases h; rw [cF e]; rfl
  | _ => simp only [intsOf] at h <;> cases h
theorem minI_le (x : Int) (r : List Int) : minI x r ∈ x :: r ∧ ∀ a ∈ x :: r, minI x r ≤ a := by
 unfold minI
 induction r generalizing x with
 | nil => simp
 | cons y r ih =>
  obtain ⟨h1, h2⟩ := ih (if y < x then y else x)
  rw [List.foldl_cons]
  generalize r.foldl (fun a b => if b < a then b else a) (if y < x then y else x) = M at *
  refine ⟨?_, fun a ha => ?_⟩
  ·rcases List.mem_cons.mp h1 with z | z
   ·split at z <;> simp [z]
   ·simp [z]
  ·have h0 := h2 _ List.mem_cons_self
   rcases List.mem_cons.mp ha with z | z
   ·subst z; split at h0 <;> omega
   ·rcases List.mem_cons.mp z with z | z
    ·subst z; split at h0 <;> omega
    ·exact h2 a (List.mem_cons_of_mem _ z)
theorem maxI_le (x : Int) (r : List Int) : maxI x r ∈ x :: r ∧ ∀ a ∈ x :: r, a ≤ maxI x r := by
 unfold maxI
 induction r generalizing x with
 | nil => simp
 | cons y r ih =>
  obtain ⟨h1, h2⟩ := ih (if y > x then y else x)
  rw [List.foldl_cons]
  generalize r.foldl (fun a b => if b > a then b else a) (if y > x then y else x) = M at *
  refine ⟨?_, fun a ha => ?_⟩
  ·rcases List.mem_cons.mp h1 with z | z
   ·split at z <;> simp [z]
   ·simp [z]
  ·have h0 := h2 _ List.mem_cons_self
   rcases List.mem_cons.mp ha with z | z
   ·subst z; split at h0 <;> omega
   ·rcases List.mem_cons.mp z with z | z
    ·subst z; split at h0 <;> omega
    ·exact h2 a (List.mem_cons_of_mem _ z)
section
variable {X : Cx} {cl : Nat → Addr} {XE : Nat → St → Hp → Prop} {YE : Nat → Hp → Prop} {Φ : Nat → List D → R D} {G : List D} {m fr : Bool} {F : Addr → Prop} {H : Hp} {Q : VK}
theorem fW {r : List Int} {ws : List V} (h : Reps X.K cl F H (r.map D.int) ws) : ws = r.map V.int := fV h
theorem ho_minL {vs : List V} {ds : List D} (g : Paired (Got X.K cl F H) ds vs) (h : Post X.K cl YE m fr F H Q (lift1 (op1 .minL) ds)) :
  ∃ (p : Addr) (ys : List Int), vs = [.ref p] ∧ SqL X.K H p (ys.map V.int) ∧ 0 < ys.length ∧ ∀ M, M ∈ ys → (∀ a ∈ ys, M ≤ a) → Q (.int M) H := by
 match ds, g, h with
 | [], _, h => exact (show False from h).elim
 | _ :: _ :: _, _, h => exact (show False from h).elim
 | [d], g, h =>
  obtain ⟨v, rfl, gv⟩ := Paired.one g
  have h : Post X.K cl YE m fr F H Q (op1 .minL d) := h
  cases d with
  | lst xs =>
   obtain ⟨a, ws, rfl, h1, r1⟩ := gv.lst
   have h : Post X.K cl YE m fr F H Q (minR (intsOf xs)) := h
   cases e : intsOf xs with
   | none => rw [e] at h; exact (show False from h).elim
   | some r =>
    rw [e] at h
    cases r with
    | nil => exact (show False from h).elim
    | cons x r =>
     have h : Post X.K cl YE m fr F H Q (if r.length ≤ 1000 then .ok (.int (minI x r)) else .bad) := h
     by_cases hc : r.length ≤ 1000
     ·rw [if_pos hc] at h
      rw [cF e] at r1
      have := fW r1
      subst this
      refine ⟨a, x :: r, rfl, SqL.of h1, by simp, fun M h2 h3 => ?_⟩
      obtain ⟨b1, b2⟩ := minI_le x r
      have e1 := b2 M h2
      have e2 := h3 _ b1
      have : M = minI x r := by omega
      rw [this]; exact Post.int h
     ·rw [if_neg hc] at h; exact (show False from h).elim
  | _ => exact (show False from h).elim
theorem ho_maxL {vs : List V} {ds : List D} (g : Paired (Got X.K cl F H) ds vs) (h : Post X.K cl YE m fr F H Q (lift1 (op1 .maxL) ds)) :
  ∃ (p : Addr) (ys : List Int), vs = [.ref p] ∧ SqL X.K H p (ys.map V.int) ∧ 0 < ys.length ∧ ∀ M, M ∈ ys → (∀ a ∈ ys, a ≤ M) → Q (.int M) H := by
 match ds, g, h with
 | [], _, h => exact (show False from h).elim
 | _ :: _ :: _, _, h => exact (show False from h).elim
 | [d], g, h =>
  obtain ⟨v, rfl, gv⟩ := Paired.one g
  have h : Post X.K cl YE m fr F H Q (op1 .maxL d) := h
  cases d with
  | lst xs =>
   obtain ⟨a, ws, rfl, h1, r1⟩ := gv.lst
   have h : Post X.K cl YE m fr F H Q (maxR (intsOf xs)) := h
   cases e : intsOf xs with
   | none => rw [e] at h; exact (show False from h).elim
   | some r =>
    rw [e] at h
    cases r with
    | nil => exact (show False from h).elim
    | cons x r =>
     have h : Post X.K cl YE m fr F H Q (if r.length ≤ 1000 then .ok (.int (maxI x r)) else .bad) := h
     by_cases hc : r.length ≤ 1000
     ·rw [if_pos hc] at h
      rw [cF e] at r1
      have := fW r1
      subst this
      refine ⟨a, x :: r, rfl, SqL.of h1, by simp, fun M h2 h3 => ?_⟩
      obtain ⟨b1, b2⟩ := maxI_le x r
      have e1 := b2 M h2
      have e2 := h3 _ b1
      have : M = maxI x r := by omega
      rw [this]; exact Post.int h
     ·rw [if_neg hc] at h; exact (show False from h).elim
  | _ => exact (show False from h).elim
theorem x_minL {ea : Ex} {a : Expr} {pos p : Pos} (hm : X.mg "min" = none) (ia : OkE X cl XE Φ G true ea a) (hc : X.calm = true := by rfl) (hg : Gl X "min" := by rfl) (hs : starEach (a :: []) X.env = (false, eval a X.env) :: starEach [] X.env := by rfl) : OkE X cl XE Φ G m (.op1 .minL ea) (.Call (.Name "min" p) [a] [] pos) :=
 dX (exs := [ea]) (o := lift1 (op1 .minL)) ev1 (nK hc) hg hm boot_min (by decide) (by decide) hs rfl (bP hs ia aF) fun YE F H vs ds Q t g h => ho_minL g h
theorem x_maxL {ea : Ex} {a : Expr} {pos p : Pos} (hm : X.mg "max" = none) (ia : OkE X cl XE Φ G true ea a) (hc : X.calm = true := by rfl) (hg : Gl X "max" := by rfl) (hs : starEach (a :: []) X.env = (false, eval a X.env) :: starEach [] X.env := by rfl) : OkE X cl XE Φ G m (.op1 .maxL ea) (.Call (.Name "max" p) [a] [] pos) :=
 dX (exs := [ea]) (o := lift1 (op1 .maxL)) ev1 (nM hc) hg hm boot_max (by decide) (by decide) hs rfl (bP hs ia aF) fun YE F H vs ds Q t g h => ho_maxL g h
theorem boot_set : bootBuiltins "set" = some (.type "set") := by first | exact PySem.boot_set | rfl | decide +kernel
theorem kU : ∀ {l l' : List Int}, l.Nodup → (∀ x ∈ l, x ∈ l') → l.length ≤ l'.length
 | [], _, _, _ => Nat.zero_le _
 | a :: t, l', nd, h => by
  have nd' := List.nodup_cons.mp nd
  have ha := h a (by simp)
  have := kU (l := t) (l' := l'.erase a) nd'.2 fun x hx => (List.mem_erase_of_ne (fun e => nd'.1 (by rw [← show x = a from e]; exact hx))).mpr (h x (by simp [hx]))
  rw [List.length_erase_of_mem ha] at this
  have : 0 < l'.length := List.length_pos_of_mem ha
  simp only [List.length_cons]
  omega
theorem mD : ∀ r : List Int, (dist r).Nodup ∧ ∀ x, x ∈ dist r ↔ x ∈ r
 | [] => by simp [dist]
 | a :: r => by
  obtain ⟨h1, h2⟩ := mD r
  refine ⟨?_, fun x => ?_⟩
  ·rw [dist, List.nodup_cons]
   exact ⟨by simp, List.Pairwise.filter _ h1⟩
  ·rw [dist, List.mem_cons, List.mem_filter, h2, List.mem_cons, decide_eq_true_iff]
   by_cases c : x = a <;> simp [c]
theorem jS (val : Nat → Int) : ∀ n, (firstMet val n).Nodup ∧ ∀ x, x ∈ firstMet val n ↔ ∃ i, i < n ∧ val i = x
 | 0 => by rw [firstMet_zero]; simp
 | n + 1 => by
  obtain ⟨h1, h2⟩ := jS val n
  rw [firstMet_succ]
  unfold step_dedup
  by_cases c : val n ∈ firstMet val n
  ·rw [if_pos (by simpa using c)]
   refine ⟨h1, fun x => ?_⟩
   rw [h2]
   constructor
   ·rintro ⟨i, hi, e⟩; exact ⟨i, by omega, e⟩
   ·rintro ⟨i, hi, e⟩
    by_cases q : i = n
    ·subst q; rw [← e]; exact (h2 _).mp c
    ·exact ⟨i, by omega, e⟩
  ·rw [if_neg (by simpa using c)]
   refine ⟨?_, fun x => ?_⟩
   ·rw [List.nodup_append]
    refine ⟨h1, by simp, fun a ha b hb => ?_⟩
    have : b = val n := by simpa using hb
    subst this
    rintro rfl; exact c ha
   ·rw [List.mem_append, h2, List.mem_singleton]
    constructor
    ·rintro (⟨i, hi, e⟩ | rfl)
     ·exact ⟨i, by omega, e⟩
     ·exact ⟨n, by omega, rfl⟩
    ·rintro ⟨i, hi, e⟩
     by_cases q : i = n
     ·subst q; exact .inr e.symm
     ·exact .inl ⟨i, by omega, e⟩
theorem kW (r : List Int) : (firstMet (fun i => r.getD i 0) r.length).length = (dist r).length := by
 obtain ⟨a1, a2⟩ := jS (fun i => r.getD i 0) r.length
 obtain ⟨b1, b2⟩ := mD r
 have same : ∀ x, x ∈ firstMet (fun i => r.getD i 0) r.length ↔ x ∈ dist r := fun x => by
  rw [a2, b2, List.mem_iff_getElem]
  constructor
  ·rintro ⟨i, hi, rfl⟩; exact ⟨i, hi, by simp [hi]⟩
  ·rintro ⟨i, hi, rfl⟩; exact ⟨i, hi, by simp [hi]⟩
 exact Nat.le_antisymm (kU a1 fun x hx => (same x).mp hx) (kU b1 fun x hx => (same x).mpr hx)
theorem x_nset {ea : Ex} {a : Expr} {pos p pos2 p2 : Pos} (hm : X.mg "len" = none) (hm2 : X.mg "set" = none) (ia : OkE X cl XE Φ G true ea a) (hc : X.calm = true := by rfl) (hg : Gl X "len" := by rfl) (hg2 : Gl X "set" := by rfl) (hs : starEach (a :: []) X.env = (false, eval a X.env) :: starEach [] X.env := by rfl)
  (hs2 : starEach [.Call (.Name "set" p2) [a] [] pos2] X.env = (false, eval (.Call (.Name "set" p2) [a] [] pos2) X.env) :: starEach [] X.env := by rfl) : OkE X cl XE Φ G m (.op1 .nset ea) (.Call (.Name "len" p) [.Call (.Name "set" p2) [a] [] pos2] [] pos) := by
 obtain ⟨ta, pa, ia⟩ := bP hs ia aF
 have p1 := d9 (p := p2) (pos := pos2) (nN hc) hg2 hm2 boot_set pa (by decide) (by decide) hs rfl
 have p2 := dM (p := p) (pos := pos) nO hg hm boot_len (pa_cons p1 pa_nil hs2) (by decide) (by decide) hs2 rfl
 refine ⟨_, p2, fun F σ δ H Q S h => ?_⟩
 refine ia F σ δ H _ S ?_
 rw [ev1] at h
 refine Meet.mono (Meet.bind h) (fun ds _ hd F1 vs H1 u1 g1 => ?_) fun c z => z
 rw [if_pos rfl] at g1
 match ds, g1, hd with
 | [], _, hd => exact (show False from hd).elim
 | _ :: _ :: _, _, hd => exact (show False from hd).elim
 | [d], g1, hd =>
  obtain ⟨v, rfl, gv⟩ := Paired.one g1
  have h : Post X.K cl (fun c => XE c σ) m (frsh (.op1 .nset ea)) F H Q (op1 .nset d) := hd
  cases d with
  | lst xs =>
   obtain ⟨a, ws, rfl, h1, r1⟩ := gv.lst
   have h : Post X.K cl (fun c => XE c σ) m (frsh (.op1 .nset ea)) F H Q (nsetR (intsOf xs)) := h
   cases e : intsOf xs with
   | none => rw [e] at h; exact (show False from h).elim
   | some r =>
    rw [e] at h
    have h : Post X.K cl (fun c => XE c σ) m (frsh (.op1 .nset ea)) F H Q (if r.length ≤ 100 then .ok (.int (dist r).length) else .bad) := h
    by_cases hl : r.length ≤ 100
    ·rw [if_pos hl] at h
     rw [cF e] at r1
     have := fW r1
     subst this
     refine ⟨a, r, rfl, SqL.of h1, hl, fun l S' hn => ?_⟩
     refine ⟨l, S', _, rfl, aO, ?_⟩
     rw [kW]
     exact Post.int (Post.up h (u1.trans (Up.alloc hn)))
    ·rw [if_neg hl] at h; exact (show False from h).elim
  | _ => exact (show False from hd).elim
end
end L2.Snd
namespace L2.Snd
open PySem PySem.Spec PyProof.Rows L2 Py
structure NS (K : PySem.W.Frag) (cl : Nat → Addr) (F₀ : Addr → Prop) (H₀ : Hp) (F : Addr → Prop) (H : Hp) (σ : St) (δ : Sto) (i : Nat) (L : Addr) (as : List Addr) (R : List (List Int)) : Prop where
 sees : Sees K cl F H σ δ
 up : Up F₀ H₀ F H
 noo : noOwn δ = true
 un : δ[i]? = some none
 here : σ[i]? = some (some (.ref L))
 nest : Nest H L as R
 fL : ¬ F L
 fas : ∀ a ∈ as, ¬ F a
 oL : H₀ L = none
 oas : ∀ a ∈ as, H₀ a = none
theorem pV : ∀ {l : List Addr} {i j : Nat} {a : Addr}, l.Nodup → l[i]? = some a → l[j]? = some a → i = j
 | [], _, _, _, _, h, _ => by simp at h
 | b :: l, 0, 0, a, _, _, _ => rfl
 | b :: l, 0, j + 1, a, nd, h, k => by
  have h : b = a := by simpa using h
  exact absurd (List.mem_of_getElem? (by simpa using k)) (by rw [← h]; exact (List.nodup_cons.mp nd).1)
 | b :: l, i + 1, 0, a, nd, h, k => by
  have k : b = a := by simpa using k
  exact absurd (List.mem_of_getElem? (by simpa using h)) (by rw [← k]; exact (List.nodup_cons.mp nd).1)
 | b :: l, i + 1, j + 1, a, nd, h, k => congrArg Nat.succ (pV (List.nodup_cons.mp nd).2 (by simpa using h) (by simpa using k))
theorem kX {δ : Sto} (h : noOwn δ = true) (j : Nat) (d : D) : δ[j]? ≠ some (some (true, d)) := fun e => by
 have := List.all_eq_true.mp h _ (List.mem_of_getElem? e)
 simp at this
section
variable {K : PySem.W.Frag} {cl : Nat → Addr} {F₀ F F' : Addr → Prop} {H₀ H H' : Hp} {σ : St} {δ : Sto} {i : Nat} {L : Addr} {as : List Addr} {R : List (List Int)}
theorem Nest.tracked (n : Nest H L as R) {a : Addr} (h : a ∈ as) : ∃ (j : Nat) (r : List Int), as[j]? = some a ∧ R[j]? = some r ∧ H a = some (.lst (r.map V.int)) := by
 obtain ⟨j, hj, rfl⟩ := List.mem_iff_getElem.mp h
 have hr : j < R.length := by rw [← n.len]; exact hj
 exact ⟨j, R[j], by simp [hj], by simp [hr], n.row j _ _ (by simp [hj]) (by simp [hr])⟩
theorem NS.to (h : NS K cl F₀ H₀ F H σ δ i L as R) (u : Up F H F' H') : NS K cl F₀ H₀ F' H' σ δ i L as R where
 sees := h.sees.up u
 up := h.up.trans u
 noo := h.noo
 un := h.un
 here := h.here
 nest := h.nest.same u.same
 fL := fun z => (u.new L z).elim h.fL fun y => by rw [h.nest.top] at y; cases y.1
 fas := fun a ha z => (u.new a z).elim (h.fas a ha) fun y => by
  obtain ⟨j, r, _, _, e⟩ := h.nest.tracked ha
  rw [e] at y; cases y.1
 oL := h.oL
 oas := h.oas
theorem NS.put (h : NS K cl F₀ H₀ F H σ δ i L as R) {k m : Nat} {a : Addr} {r : List Int} {w : Int} (ha : as[k]? = some a) (hr : R[k]? = some r) :
  NS K cl F₀ H₀ F (L2.upd H a (.lst ((r.map V.int).set m (.int w)))) σ δ i L as (R.set k (r.set m w)) := by
 have am := List.mem_of_getElem? ha
 have hH := h.nest.row k a r ha hr
 have nF := h.fas a am
 have pr : Pres F H (L2.upd H a (.lst ((r.map V.int).set m (.int w)))) := Pres.upd nF (fun ys e => by rw [hH] at e; cases e) fun o u e => by rw [hH] at e; cases e
 have hk : k < R.length := (List.getElem?_eq_some_iff.mp hr).1
 refine ⟨⟨h.sees.len, fun b hb => ?_, fun j d e => ?_, fun j d e => absurd e (kX h.noo j d)⟩, ⟨fun b o e => ?_, h.up.sub, fun b hb => ?_⟩, h.noo, h.un, h.here, ⟨?_, by rw [List.length_set]; exact h.nest.len, fun j b q e1 e2 => ?_, h.nest.nd, h.nest.ne⟩, h.fL, h.fas, h.oL, h.oas⟩
 ·rw [aL (by rintro rfl; exact nF hb)]; exact h.sees.trk b hb
 ·obtain ⟨v, e1, e2⟩ := h.sees.sh j d e
  exact ⟨v, e1, e2.mono pr fun _ z => z⟩
 ·rw [aL (by rintro rfl; rw [h.oas b am] at e; cases e)]; exact h.up.same b o e
 ·rcases h.up.new b hb with z | ⟨z1, z2⟩
  ·exact .inl z
  ·exact .inr ⟨z1, by rw [aL (by rintro rfl; exact nF hb)]; exact z2⟩
 ·rw [aL (fun z => h.nest.ne a am z.symm)]; exact h.nest.top
 ·by_cases hj : j = k
  ·subst hj
   have : b = a := Option.some.inj (e1.symm.trans ha)
   subst this
   rw [List.getElem?_set_self hk] at e2
   cases e2
   rw [aO, List.map_set]
  ·rw [List.getElem?_set_ne (Ne.symm hj)] at e2
   have : b ≠ a := fun z => by
    subst z
    exact hj (pV h.nest.nd e1 ha)
   rw [aL this]
   exact h.nest.row j b q e1 e2
theorem g8 {F' : Addr → Prop} : ∀ {as : List Addr} {R : List (List Int)}, as.length = R.length → (∀ (j : Nat) a r, as[j]? = some a → R[j]? = some r → F' a ∧ H a = some (.lst (r.map V.int))) → Reps K cl F' H (R.map lstI) (as.map V.ref)
 | [], [], _, _ => Reps.nil
 | [], _ :: _, h, _ => by simp at h
 | _ :: _, [], h, _ => by simp at h
 | a :: as, r :: R, h, k => by
  refine Reps.cons ?_ (g8 (by simpa using h) fun j b q e1 e2 => k (j + 1) b q (by simpa using e1) (by simpa using e2))
  obtain ⟨k1, k2⟩ := k 0 a r rfl rfl
  unfold lstI
  simp only [Rep]
  refine ⟨a, _, rfl, k1, k2, ?_⟩
  clear k k1 k2 h
  induction r with
  | nil => exact Reps.nil
  | cons x r ih => exact Reps.cons (by simp [Rep]) ih
theorem NS.fit (h : NS K cl F₀ H₀ F H σ δ i L as R) : Fit K cl F₀ H₀ (fun b => F b ∨ b ∈ as) H σ (δ.set i (some (true, .lst (R.map lstI)))) := by
 have hi : i < δ.length := (List.getElem?_eq_some_iff.mp h.un).1
 have own : ∀ (j : Nat) d, (δ.set i (some (true, .lst (R.map lstI))))[j]? = some (some (true, d)) → j = i ∧ d = .lst (R.map lstI) := fun j d e => by
  by_cases hj : j = i
  ·subst hj
   rw [List.getElem?_set_self hi] at e
   cases e; exact ⟨rfl, rfl⟩
  ·rw [List.getElem?_set_ne (Ne.symm hj)] at e
   exact absurd e (kX h.noo j d)
 refine ⟨⟨by rw [List.length_set]; exact h.sees.len, fun b hb => ?_, fun j d e => ?_, fun j d e => ?_⟩, ⟨h.up.same, fun b hb => .inl (h.up.sub b hb), fun b hb => ?_⟩, fun j d a e e2 => ?_, fun j j' d d' a ne e e' => ?_⟩
 ·rcases hb with hb | hb
  ·exact h.sees.trk b hb
  ·obtain ⟨_, _, _, _, e⟩ := h.nest.tracked hb
   rw [e]; exact Option.some_ne_none _
 ·by_cases hj : j = i
  ·subst hj
   rw [List.getElem?_set_self hi] at e
   cases e
  ·rw [List.getElem?_set_ne (Ne.symm hj)] at e
   obtain ⟨v, e1, e2⟩ := h.sees.sh j d e
   exact ⟨v, e1, e2.mono (Pres.of_same (Same.refl H)) fun _ z => .inl z⟩
 ·obtain ⟨rfl, rfl⟩ := own j d e
  exact ⟨L, h.here, fun z => z.elim h.fL fun z => h.nest.ne L z rfl, _, h.nest.top, g8 h.nest.len fun j a r e1 e2 => ⟨.inr (List.mem_of_getElem? e1), h.nest.row j a r e1 e2⟩⟩
 ·rcases hb with hb | hb
  ·exact h.up.new b hb
  ·obtain ⟨_, _, _, _, e⟩ := h.nest.tracked hb
   exact .inr ⟨h.oas b hb, by rw [e]; exact Option.some_ne_none _⟩
 ·obtain ⟨rfl, rfl⟩ := own j d e
  rw [h.here] at e2
  have : L = a := by simpa using e2
  rw [← this]; exact h.oL
 ·exact absurd ((own j d e).1.trans (own j' d' e').1.symm) ne
end
section
variable {X : Cx} {cl : Nat → Addr} {XE : Nat → St → Hp → Prop} {Φ : Nat → List D → R D} {G : List D} {n : Nat}
def OkCp (X : Cx) (cl : Nat → Addr) (srcs : List Nat) (es : List Expr) : Prop := ∃ t, PA X es t ∧ ∀ F σ δ H Q Rw, Sees X.K cl F H σ δ → rowsOf δ srcs = some Rw →
 (∀ (H' : Hp) (as : List Addr), Same H H' → as.length = Rw.length → (∀ (j : Nat) a r, as[j]? = some a → Rw[j]? = some r → H' a = some (.lst (r.map V.int))) → as.Nodup → (∀ a ∈ as, H a = none) → Q (as.map V.ref) H') → t σ H Q
theorem cp_nil : OkCp X cl [] [] := by
 refine ⟨_, pa_nil, fun F σ δ H Q Rw S e q => ?_⟩
 simp only [rowsOf] at e
 cases e
 exact q H [] (Same.refl H) rfl (by simp) List.nodup_nil (by simp)
theorem iU {j : Nat} {js : List Nat} {x : Str} {p p2 pos : Pos} {es : List Expr} (hm : X.mg "list" = none) (iv : OkE X cl (fun _ _ _ => False) Φ G true (.var j) (.Name x p2)) (hr : OkCp X cl js es) (hg : Gl X "list" := by rfl) (hs : starEach [.Name x p2] X.env = [(false, eval (.Name x p2) X.env)] := by rfl)
  (hs2 : starEach (.Call (.Name "list" p) [.Name x p2] [] pos :: es) X.env = (false, eval (.Call (.Name "list" p) [.Name x p2] [] pos) X.env) :: starEach es X.env := by rfl) : OkCp X cl (j :: js) (.Call (.Name "list" p) [.Name x p2] [] pos :: es) := by
 obtain ⟨ta, pa, ia⟩ := bP (es := []) (as := []) hs iv aF
 have pe := d9 (p := p) (pos := pos) (X := X) dQ hg hm boot_list pa (by decide) (by decide) hs rfl
 obtain ⟨tr, pr, ir⟩ := hr
 refine ⟨_, pa_cons pe pr hs2, fun F σ δ H Q Rw S e q => ?_⟩
 simp only [rowsOf] at e
 cases hv : rdV δ j with
 | exc c => rw [hv] at e; cases e
 | bad => rw [hv] at e; cases e
 | ok d =>
  rw [hv] at e
  cases d with
  | tup xs =>
   simp only at e
   cases e1 : intsOf xs with
   | none => rw [e1] at e; cases e
   | some r =>
    rw [e1] at e
    cases e2 : rowsOf δ js with
    | none => rw [e2] at e; cases e
    | some Rr =>
     rw [e2] at e
     have e : some (r :: Rr) = some Rw := e
     cases e
     refine ia F σ δ H _ S ?_
     have ev1' : evs Φ G true [.var j] δ = .ok [.tup xs] := by
      have hR : rdR δ j = .ok (.tup xs) := by
       unfold rdV at hv
       unfold rdR
       split at hv
       ·rename_i d' e'; rw [e']; exact hv
       ·cases hv
      simp only [evs, ev, if_true, hR]; rfl
     rw [ev1']
     intro F' vs H' u g
     rw [if_pos rfl] at g
     obtain ⟨v, rfl, gv⟩ := Paired.one g
     obtain ⟨a, ws, rfl, h1, r1⟩ := gv.tup
     rw [cF e1] at r1
     have := fV r1
     subst this
     refine ⟨a, _, rfl, .inr h1, fun l hl => ?_⟩
     have sl : Same H (L2.upd H' l (.lst (r.map V.int))) := fun b o z => by
      rw [aL (by rintro rfl; rw [u.same b o z] at hl; cases hl)]; exact u.same b o z
     refine ir F σ δ (L2.upd H' l (.lst (r.map V.int))) _ Rr (S.up (Same.up1 sl)) e2 fun H2 as s2 al ar nd fr => ?_
     refine q H2 (l :: as) (sl.trans s2) (by simp [al]) (fun k b q' k1 k2 => ?_) (List.nodup_cons.mpr ⟨fun z => ?_, nd⟩) fun b hb => ?_
     ·cases k with
      | zero => simp at k1 k2; subst k1 k2; exact s2 _ _ aO
      | succ k => exact ar k b q' (by simpa using k1) (by simpa using k2)
     ·have := fr l z
      rw [aO] at this; cases this
     ·rcases List.mem_cons.mp hb with rfl | hb
      ·exact u.same.free hl
      ·exact sl.free (fr b hb)
  | _ => simp only at e; cases e
def xecsN (Φ : Nat → List D → R D) (G : List D) (n i : Nat) (ps : List (Nat × Ex × Ex)) (R : List (List Int)) (sms : List Sm) (δ : Sto) : Out := match nestD (fun e => ev Φ G true e δ) ps R with
 | some R' => xecs Φ G n sms (δ.set i (some (true, .lst (R'.map lstI))))
 | none => .bad
def OkN (X : Cx) (cl : Nat → Addr) (XE : Nat → St → Hp → Prop) (Φ : Nat → List D → R D) (G : List D) (n i : Nat) (ps : List (Nat × Ex × Ex)) (sms : List Sm) (sts : List Stmt) : Prop := ∃ t, PSs X sts t ∧ ∀ F₀ H₀ F σ δ H D L as R, NS X.K cl F₀ H₀ F H σ δ i L as R → PostS X.K cl XE F₀ H₀ D (xecsN Φ G n i ps R sms δ) → t D σ H
theorem oks_n0 {i : Nat} {sms : List Sm} {sts : List Stmt} (h : OkSs X cl XE Φ G n sms sts) : OkN X cl XE Φ G n i [] sms sts := by
 obtain ⟨t, p, q⟩ := h
 exact ⟨t, p, fun F₀ H₀ F σ δ H D L as R s z => q F₀ H₀ _ σ _ H D s.fit z⟩
theorem bR {i : Nat} {x : Str} {k : Nat} {ix v : Ex} {ps : List (Nat × Ex × Ex)} {sms : List Sm} {sts : List Stmt} {e ie : Expr} {j : Nat} {p pk p2 pp pos : Pos} (i1 : OkE X cl XE Φ G true v e) (i2 : OkE X cl XE Φ G true ix ie) (hr : OkN X cl XE Φ G n i ps sms sts)
  (hN : X.N[i]? = some x := by rfl) (hv : Vis X.env.scope x := by first | exact Or.inl rfl | exact Or.inr (Or.inl rfl) | exact Or.inr (Or.inr rfl)) (hd : (x == ("__debug__" : Str)) = false := by decide) (hcd : (x == ("__classdict__" : Str)) = false := by decide)
  (hsw : swapsWithSole [.Subscript (.Subscript (.Name x p) (.Constant (.int (k : Nat)) j pk) p2) ie pp] e pos.line X.env = pure false := by rfl) (hw : swappedStores [.Subscript (.Subscript (.Name x p) (.Constant (.int (k : Nat)) j pk) p2) ie pp] e X.env = pure none := by rfl) (h1 : (assignEach [.Subscript (.Subscript (.Name x p) (.Constant (.int (k : Nat)) j pk) p2) ie pp] X.env).map (·.2) = [assign (.Subscript (.Subscript (.Name x p) (.Constant (.int (k : Nat)) j pk) p2) ie pp) X.env] := by rfl)
  (ha : ∀ v, assign (.Subscript (.Subscript (.Name x p) (.Constant (.int (k : Nat)) j pk) p2) ie pp) X.env v = (do
   let ov ← holding [v] (eval (.Subscript (.Name x p) (.Constant (.int (k : Nat)) j pk) p2) X.env)
   let iv ← holding [v, ov] (eval ie X.env)
   standAt pp
   holding [v, ov, iv] (setItem ov iv v)
   release [v, ov, iv] []) := by intro _; rfl) (hpl : PlainIx (.Constant (.int (k : Nat)) j pk) := by exact fun _ _ => rfl) :
  OkN X cl XE Φ G n i ((k, ix, v) :: ps) sms (.Assign [.Subscript (.Subscript (.Name x p) (.Constant (.int (k : Nat)) j pk) p2) ie pp] e pos :: sts) := by
 obtain ⟨te, pe, i1⟩ := i1
 obtain ⟨ti, pi, i2⟩ := i2
 obtain ⟨t, pr, ir⟩ := hr
 refine ⟨_, fE (oF pe (oE (pe_ix ix_list (fD hN hv hd hcd) oD hpl) pi jG ha) hsw hw h1) pr, fun F₀ H₀ F σ δ H D L as R s z => ?_⟩
 unfold xecsN at z
 simp only [nestD] at z
 cases e1 : ev Φ G true v δ with
 | exc c => simp only [e1] at z; exact z.elim
 | bad => simp only [e1] at z; exact z.elim
 | ok d1 =>
  cases e2 : ev Φ G true ix δ with
  | exc c => simp only [e1, e2] at z; cases d1 <;> exact (show False from z).elim
  | bad => simp only [e1, e2] at z; cases d1 <;> exact (show False from z).elim
  | ok d2 =>
   cases e3 : R[k]? with
   | none => simp only [e1, e2, e3] at z; cases d1 <;> cases d2 <;> exact (show False from z).elim
   | some r =>
    simp only [e1, e2, e3] at z
    cases d1 with
    | int w =>
     cases d2 with
     | int jj =>
      simp only at z
      cases e4 : ixD r.length jj with
      | none => rw [e4] at z; exact (show False from z).elim
      | some mm =>
       rw [e4] at z
       simp only [Option.bind_some] at z
       show te σ H _
       refine i1 F σ δ H _ s.sees ?_
       rw [e1]
       intro F1 v1 H1 u1 g1
       have g1' : v1 = .int w := by
        unfold Gives at g1; rw [if_pos rfl] at g1; exact g1.int
       subst g1'
       have s1 := s.to u1
       have hk : k < as.length := by rw [s.nest.len]; exact (List.getElem?_eq_some_iff.mp e3).1
       refine ⟨.ref L, s1.here, ?_⟩
       refine ⟨L, as.map V.ref, (k : Nat), .ref as[k], rfl, rfl, SqL.of s1.nest.top, ?_, ?_⟩
       ·exact atI_nat (by simp [hk])
       ·refine i2 F1 σ δ H1 _ s1.sees ?_
        rw [e2]
        intro F2 v2 H2 u2 g2
        have g2' : v2 = .int jj := by
         unfold Gives at g2; rw [if_pos rfl] at g2; exact g2.int
        subst g2'
        have s2 := s1.to u2
        have hak : as[k]? = some as[k] := by simp [hk]
        refine ⟨as[k], r.map V.int, jj, mm, rfl, rfl, s2.nest.row k _ r hak e3, pK (by rw [List.length_map]; exact e4), ?_⟩
        exact ir F₀ H₀ F2 σ δ _ D L as _ (s2.put hak e3) z
     | _ => exact (show False from z).elim
    | _ => cases d2 <;> exact (show False from z).elim
theorem pW {i : Nat} {x : Str} {srcs : List Nat} {ps : List (Nat × Ex × Ex)} {sms : List Sm} {sts : List Stmt} {es : List Expr} {px pl pos : Pos} (hNd : X.N.Nodup) (hc : OkCp X cl srcs es) (hr : OkN X cl XE Φ G n i ps sms sts)
  (hi : X.N[i]? = some x := by rfl) (hx : Loc X.env.scope x := by first | exact Or.inl rfl | exact Or.inr rfl) (hs : swapsWith (.List es pl) (some (.Name x px)) pos.line X.env = pure false := by rfl) (hf : X.fn x = true ∨ X.env.scope.names.lookup x = some .local := by first | exact .inl rfl | exact .inr rfl) :
  OkSs X cl XE Φ G n (.nest i srcs ps :: sms) (.Assign [.Name x px] (.List es pl) pos :: sts) := by
 obtain ⟨tc, pc, ic⟩ := hc
 obtain ⟨t, pr, ir⟩ := hr
 refine ⟨_, fE (kE hNd hi hx (oN pc) hs hf) pr, fun F₀ H₀ F σ δ H D f h => ?_⟩
 simp only [xecs, xec, nestX] at h
 by_cases h0 : (noOwn δ && unset δ i) = true
 ·rw [if_pos h0] at h
  rw [Bool.and_eq_true] at h0
  obtain ⟨h0, h0'⟩ := h0
  have hun : δ[i]? = some none := by
   unfold unset at h0'
   split at h0'
   ·assumption
   ·cases h0'
  cases e : rowsOf δ srcs with
  | none => rw [e] at h; exact (show False from h).elim
  | some R =>
   rw [e] at h
   simp only at h
   by_cases hz : (decide (R.length ≤ 1000) && R.all fun r => decide (r.length ≤ 1000)) = true
   ·rw [if_pos hz] at h
    rw [Bool.and_eq_true] at hz
    have hRl : R.length ≤ 1000 := of_decide_eq_true hz.1
    show tc σ H _
    refine ic F σ δ H _ R f.sees e fun H1 as s1 al ar nd fr => ⟨by
     rw [List.length_map, al]; exact Nat.le_trans hRl (by decide), fun L hL => ?_⟩
    have hiσ : i < σ.length := by rw [f.sees.len]; exact (List.getElem?_eq_some_iff.mp hun).1
    have hH1 : ∀ a ∈ as, H1 a ≠ none := fun a ha => by
     obtain ⟨k, hk, rfl⟩ := List.mem_iff_getElem.mp ha
     rw [ar k _ R[k] (by simp [hk]) (by simp [show k < R.length by rw [← al]; exact hk])]
     exact Option.some_ne_none _
    have neL : ∀ a ∈ as, a ≠ L := fun a ha z => hH1 a ha (by rw [z]; exact hL)
    have sL : Same H (L2.upd H1 L (.lst (as.map V.ref))) := fun b o z => by
     rw [aL (by rintro rfl; rw [s1 b o z] at hL; cases hL)]; exact s1 b o z
    have S1 := f.sees.up (Same.up1 (F := F) sL)
    refine ir F₀ H₀ F _ δ _ D L as R ⟨⟨by rw [List.length_set]; exact S1.len, S1.trk, fun j d z => ?_, fun j d z => absurd z (kX h0 j d)⟩, f.up.trans (Same.up1 sL), h0, hun, List.getElem?_set_self hiσ, ⟨aO, al, fun k a r k1 k2 => ?_, nd, neL⟩, ?_, fun a ha z => ?_, ?_, fun a ha => f.up.same.free (fr a ha)⟩ ?_
    ·obtain ⟨v, q1, q2⟩ := S1.sh j d z
     refine ⟨v, ?_, q2⟩
     rw [List.getElem?_set_ne (by rintro rfl; rw [hun] at z; cases z)]; exact q1
    ·rw [aL (neL a (List.mem_of_getElem? k1))]; exact ar k a r k1 k2
    ·exact fun z => f.sees.trk L z (s1.free hL)
    ·exact f.sees.trk a z (fr a ha)
    ·exact f.up.same.free (s1.free hL)
    ·unfold xecsN
     cases e5 : nestD (fun e => ev Φ G true e δ) ps R with
     | none => rw [e5] at h; exact h
     | some R' => rw [e5] at h; exact h
   ·rw [if_neg hz] at h; exact (show False from h).elim
 ·rw [if_neg h0] at h; exact (show False from h).elim
end
end L2.Snd
namespace L2.Snd
open PySem PySem.Spec PyProof.Rows L2 Py
section
variable {X : Cx} {cl : Nat → Addr} {XE : Nat → St → Hp → Prop} {YE : Nat → Hp → Prop} {Φ : Nat → List D → R D} {G : List D} {m fr : Bool} {F : Addr → Prop} {H : Hp} {Q : VK} {p q : D} {x y : V}
end
end L2.Snd
namespace L2.Snd
open PySem PySem.Spec PyProof.Rows L2 Py
section
variable {X : Cx} {cl : Nat → Addr} {XE : Nat → St → Hp → Prop} {YE : Nat → Hp → Prop} {Φ : Nat → List D → R D} {G : List D} {m : Bool} {F : Addr → Prop} {H : Hp} {Q : VK} {p q : D} {x y : V}
end
end L2.Snd
namespace L2
open PySem PyProof.Rows
variable {X : Cx}
end L2
namespace L2.Snd
open PySem PySem.Spec PyProof.Rows L2 Py
section
variable {X : Cx} {cl : Nat → Addr} {XE : Nat → St → Hp → Prop} {YE : Nat → Hp → Prop} {Φ : Nat → List D → R D} {G : List D} {m fr : Bool}
end
end L2.Snd
namespace Py
theorem cG {f : D → R (Option D)} (g : D → D) : ∀ (xs : List D), (∀ x ∈ xs, f x = .ok (some (g x))) → compM f xs = .ok (xs.map g)
 | [], _ => rfl
 | x :: r, h => by
  rw [compM, h x List.mem_cons_self, cG g r fun y hy => h y (List.mem_cons_of_mem _ hy)]
  rfl
theorem cK {f : D → R (Option D)} (p : D → Bool) (g : D → D) : ∀ (xs : List D), (∀ x ∈ xs, f x = .ok (if p x then some (g x) else none)) → compM f xs = .ok ((xs.filter p).map g)
 | [], _ => rfl
 | x :: r, h => by
  rw [compM, h x List.mem_cons_self, cK p g r fun y hy => h y (List.mem_cons_of_mem _ hy)]
  cases e : p x <;> simp [e]
theorem g9 {f : D → Sto → Out} : ∀ (xs : List D) (δ : Nat → Sto), (∀ i (h : i < xs.length), f xs[i] (δ i) = .nx (δ (i + 1))) → forM f xs (δ 0) = .nx (δ xs.length)
 | [], δ, _ => rfl
 | x :: r, δ, h => by
  rw [Py.forM.eq_2, show f x (δ 0) = .nx (δ 1) from h 0 (by simp)]
  exact g9 r (fun i => δ (i + 1)) fun i hi => h (i + 1) (by simpa using hi)
theorem pX {f : D → Sto → Out} (n : Nat) (δ : Nat → Sto) (h : ∀ i, i < n → f (.int i) (δ i) = .nx (δ (i + 1))) : forM f (rangeD 0 n) (δ 0) = .nx (δ n) := by
 have := g9 (rangeD 0 n) δ (f := f) fun i hi => by
  have hi' : i < n := by simpa [rangeD] using hi
  have e : (rangeD 0 n)[i] = .int i := by simp [rangeD]
  rw [e]; exact h i hi'
 rwa [show (rangeD 0 n).length = n by simp [rangeD]] at this
theorem mE {c : Sto → R Bool} {fz : Sto → Sto} {b : Sto → Out} : ∀ (m n : Nat) (δ : Nat → Sto), m < n → (∀ i, i < m → c (fz (δ i)) = .ok true ∧ b (fz (δ i)) = .nx (δ (i + 1))) → c (fz (δ m)) = .ok false → whlM c fz b n (δ 0) = .nx (fz (δ m))
 | 0, n + 1, δ, _, _, he => by rw [whlM, he]
 | m + 1, n + 1, δ, hm, h, he => by
  obtain ⟨h1, h2⟩ := h 0 (by omega)
  rw [whlM, h1]
  dsimp only
  rw [h2]
  exact mE m n (fun i => δ (i + 1)) (by omega) (fun i hi => h (i + 1) (by omega)) he
noncomputable def intL (xs : List Int) : List D := xs.map .int
noncomputable def rowD (r : List Int) : D := .tup (intL r)
theorem fX (lo : Int) (n : Nat) : (rangeD lo n).length = n := by simp [rangeD]
theorem bV {n : Nat} (h : n ≤ 1000) : itemsD .rng [.int n] = .ok (rangeD 0 n) := by
 have h1 : (-(LIM : Int)) ≤ (n : Int) ∧ (n : Int) ≤ (LIM : Int) := by
  have : (LIM : Int) = 100000 := rfl
  omega
 show ((if -(LIM : Int) ≤ (n : Int) ∧ (n : Int) ≤ (LIM : Int) then R.ok (rangeD 0 (n : Int).toNat) else R.bad).bind fun xs => if xs.length ≤ LIM then R.ok xs else R.bad) = _
 rw [if_pos h1]
 simp only [R.bind_ok, Int.toNat_natCast, fX]
 rw [if_pos (show n ≤ LIM from Nat.le_trans h (by decide))]
theorem hG {xs : List D} (h : xs.length ≤ 1000) : itemsD .seq [.lst xs] = .ok xs := by
 show (if xs.length ≤ LIM then R.ok xs else R.bad) = _
 rw [if_pos (show xs.length ≤ LIM from Nat.le_trans h (by decide))]
theorem bW {xs : List D} (h : xs.length ≤ 1000) : itemsD .seq [.tup xs] = .ok xs := by
 show (if xs.length ≤ LIM then R.ok xs else R.bad) = _
 rw [if_pos (show xs.length ≤ LIM from Nat.le_trans h (by decide))]
theorem cL {α : Type} {xs : List α} {i : Nat} (h : i < xs.length) : atD xs (i : Int) = some xs[i] := by
 have h1 : (0 : Int) ≤ (i : Int) := by omega
 have h2 : (i : Int) < (xs.length : Int) := by omega
 simp [atD, ixD, h1, h2, h]
theorem fY {n i : Nat} (h : i < n) : ixD n (i : Int) = some i := by
 have h1 : (0 : Int) ≤ (i : Int) := by omega
 have h2 : (i : Int) < (n : Int) := by omega
 simp [ixD, h1, h2]
theorem mF {α : Type} (xs : List α) (a b : Nat) : cut xs (some (a : Int)) (some (b : Int)) = (xs.drop a).take (b - a) := by
 have h1 : ¬ ((a : Int) < 0) := by omega
 have h2 : ¬ ((b : Int) < 0) := by omega
 simp only [cut, sIx, if_neg h1, if_neg h2, Int.toNat_natCast]
 by_cases ha : a ≤ xs.length
 ·rw [Nat.min_eq_left ha]
  by_cases hb : b ≤ xs.length
  ·rw [Nat.min_eq_left hb]
  ·rw [Nat.min_eq_right (by omega)]
   rw [List.take_of_length_le (by rw [List.length_drop]; omega), List.take_of_length_le (by rw [List.length_drop]; omega)]
 ·have e1 : xs.drop a = [] := List.drop_of_length_le (by omega)
  have e2 : xs.drop (min a xs.length) = [] := List.drop_of_length_le (by omega)
  rw [e1, e2]
  simp
theorem pY {α : Type} (xs : List α) (a : Nat) : cut xs (some (a : Int)) none = xs.drop a := by
 have h1 : ¬ ((a : Int) < 0) := by omega
 simp only [cut, sIx, if_neg h1, Int.toNat_natCast]
 by_cases ha : a ≤ xs.length
 ·rw [Nat.min_eq_left ha, List.take_of_length_le (by rw [List.length_drop]; omega)]
 ·rw [Nat.min_eq_right (by omega), List.drop_of_length_le (Nat.le_refl _), List.drop_of_length_le (by omega)]
  simp
theorem o_addL (a b : List D) (h : a.length + b.length ≤ LIM) : op2 .add (.lst a) (.lst b) = .ok (.lst (a ++ b)) := if_pos h
theorem jT (i j : Int) (h : (-(2 ^ 64) < i ∧ i < 2 ^ 64) ∨ (-(2 ^ 64) < j ∧ j < 2 ^ 64)) : op2 .mul (.int i) (.int j) = .ok (.int (i * j)) := if_pos h
theorem dA (i j : Int) (h : 0 < j) : op2 .mod (.int i) (.int j) = .ok (.int (i % j)) := if_pos h
theorem eG (i j : Int) (h : 0 < j ∧ j < 1073741824) : op2 .fdiv (.int i) (.int j) = .ok (.int (i / j)) := if_pos h
theorem iV (xs : List D) : op1 .list (.lst xs) = .ok (.lst xs) := rfl
theorem kY (xs : List D) (h : plns 999 xs = true) : op1 .isTup (.tup xs) = .ok (.bl true) := by
 show (if pln 1000 (.tup xs) then _ else _) = _
 rw [if_pos (by simpa [pln] using h)]
theorem of_ok {α : Type} (a : α) (δ : Sto) (f : α → Out) : Out.of (.ok a) δ f = f a := rfl
theorem of_exc {α : Type} (c : Nat) (δ : Sto) (f : α → Out) : Out.of (.exc c : R α) δ f = .xc c δ := rfl
theorem fZ {α β : Type} (a : α) (f : α → R β) : (R.ok a).bind f = f a := rfl
theorem Za (b : Bool) : truth (.bl b) = .ok b := rfl
theorem Zb (xs : List D) : truth (.lst xs) = .ok (!xs.isEmpty) := rfl
theorem Zc {α : Type} (a : α) (δ : Sto) (f : α → Out) : Out.of (.ok a) δ f = f a := rfl
theorem Zd {α : Type} (c : Nat) (δ : Sto) (f : α → Out) : Out.of (.exc c : R α) δ f = .xc c δ := rfl
theorem Ze (d : D) : ofO (some d) = .ok d := rfl
theorem Zf {α β : Type} (a : α) (f : α → R β) : (R.ok a).bind f = f a := rfl
theorem Zg {α β : Type} (c : Nat) (f : α → R β) : (R.exc c : R α).bind f = .exc c := rfl
theorem Zh {α : Type} (a : α) : (R.ok a).quiet = .ok a := rfl
theorem Zi {α : Type} {x : α} {xs : List α} {a : α} : (x :: xs).set 0 a = a :: xs := rfl
theorem Zj {α : Type} {x : α} {xs : List α} {n : Nat} {a : α} : (x :: xs).set (n + 1) a = x :: xs.set n a := rfl
theorem Zk {α : Type} {x : α} {xs : List α} : (x :: xs)[0]? = some x := rfl
theorem Zl {α : Type} {x : α} {xs : List α} {i : Nat} : (x :: xs)[i + 1]? = xs[i]? := rfl
theorem Zm {α β : Type} {f : α → β} {a : α} {l : List α} : (a :: l).map f = f a :: l.map f := rfl
theorem Zn {α β : Type} {f : α → β} : ([] : List α).map f = [] := rfl
theorem Zo {α : Type} (l : List α) : [] ++ l = l := rfl
theorem Zp {α : Type} {a : α} {l r : List α} : (a :: l) ++ r = a :: (l ++ r) := rfl
theorem Zq {α : Type} (l : List α) : l ++ [] = l := List.append_nil l
theorem Zr (b : Bool) : (b && true) = b := Bool.and_true b
theorem Zs (b : Bool) : (b && false) = false := Bool.and_false b
theorem Zt (b : Bool) : (true && b) = b := rfl
theorem Zu (b : Bool) : (false && b) = false := rfl
theorem Zv : (!true) = false := rfl
theorem Zw : (!false) = true := rfl
theorem Zx {α : Type} {a b : α} : (some a).getD b = a := rfl
theorem ZA (i j : Int) : op2 .add (.int i) (.int j) = .ok (.int (i + j)) := rfl
theorem ZB (i j : Int) : op2 .sub (.int i) (.int j) = .ok (.int (i - j)) := rfl
theorem ZC (i j : Int) : op2 .lt (.int i) (.int j) = .ok (.bl (decide (i < j))) := rfl
theorem ZD (i j : Int) : op2 .le (.int i) (.int j) = .ok (.bl (decide (i ≤ j))) := rfl
theorem ZE (i j : Int) : op2 .gt (.int i) (.int j) = .ok (.bl (decide (j < i))) := rfl
theorem ZF (i j : Int) : op2 .ge (.int i) (.int j) = .ok (.bl (decide (j ≤ i))) := rfl
theorem ZG (i j : Int) : op2 .eq (.int i) (.int j) = .ok (.bl (i == j)) := rfl
theorem ZH (i j : Int) : op2 .ne (.int i) (.int j) = .ok (.bl (!(i == j))) := rfl
theorem ZI (xs : List D) (i : Int) : op2 .at (.lst xs) (.int i) = ofO (atD xs i) := rfl
theorem ZJ (xs : List D) (i : Int) : op2 .at (.tup xs) (.int i) = ofO (atD xs i) := rfl
theorem ZK (xs : List Int) (i : Int) : op2 .at (.scr xs) (.int i) = ofO ((atD xs i).map .int) := rfl
theorem ZL (xs : List D) : op1 .len (.lst xs) = .ok (.int xs.length) := rfl
theorem ZM (xs : List D) : op1 .len (.tup xs) = .ok (.int xs.length) := rfl
theorem ZN (xs : List Int) : op1 .len (.scr xs) = .ok (.int xs.length) := rfl
theorem ZO (i : Int) : op1 .neg (.int i) = .ok (.int (-i)) := rfl
theorem ZP (xs : List D) : op1 .tuple (.lst xs) = .ok (.tup xs) := rfl
theorem ZQ (xs : List D) : op1 .tuple (.tup xs) = .ok (.tup xs) := rfl
theorem ZR (xs : List D) : op1 .list (.lst xs) = .ok (.lst xs) := rfl
theorem ZS (xs : List D) : op1 .list (.tup xs) = .ok (.lst xs) := rfl
theorem ZT (i : Int) : op1 .isInt (.int i) = .ok (.bl true) := rfl
theorem ZU (i : Int) : op1 .isBool (.int i) = .ok (.bl false) := rfl
noncomputable def Bcell : List Sm := [(.ite (.leaf (.op2 .lt (.var 1) (.op1 .len (.var 0)))) [(.ret (.op2 .at (.var 0) (.var 1)))] []), (.ret (.cst (.int 0)))]
noncomputable def cellV (ns : List Int) (k : Nat) : Int := ns.getD k 0
section
variable {Φ : Nat → List D → R D} {G : List D} {n : Nat}
theorem pZ (ns : List Int) (k : Nat) : xecs Φ G n Bcell [some (false, .scr ns), some (false, .int k)] = .rt (.int (cellV ns k)) := by
 by_cases h : k < ns.length
 ·have e : decide ((k : Int) < (ns.length : Int)) = true := decide_eq_true (by omega)
  simp only [Bcell, xecs, xec, evT, ev, frz, leaksT, leaks, rdR, rdV, Za, Zc, Ze, Zf, Zk, Zl, Zq, if_true, ZC, ZK, ZN, e, cL h, Option.map_some]
  simp [cellV, h]
 ·have e : decide ((k : Int) < (ns.length : Int)) = false := decide_eq_false (by omega)
  have e2 : cellV ns k = 0 := by simp [cellV, List.getElem?_eq_none (by omega : ns.length ≤ k)]
  simp only [Bcell, xecs, xec, evT, ev, frz, leaksT, leaks, rdR, rdV, Za, Zc, Zf, Zk, Zl, Zq, if_true, if_false, Bool.false_eq_true, ZC, ZK, ZN, e, e2]
noncomputable def pickV (ns : List Int) (k : Nat) : Int := if k < ns.length then cellV ns k else (cellV ns 0 + 7 * k + 3) * 48271 % 2147483647 / 13
noncomputable def Bpick (c : Nat) : List Sm := [(.ite (.leaf (.op2 .lt (.var 1) (.op1 .len (.var 0)))) [(.ret (.op2 .at (.var 0) (.var 1)))] []), (.ret (.op2 .fdiv (.op2 .mod (.op2 .mul (.op2 .add (.op2 .add (.call c [(.var 0), (.cst (.int 0))]) (.op2 .mul (.cst (.int 7)) (.var 1))) (.cst (.int 3))) (.cst (.int 48271))) (.cst (.int 2147483647))) (.cst (.int 13))))]
theorem pick_run {c : Nat} (ns : List Int) (k : Nat) (hc : Φ c [.scr ns, .int 0] = .ok (.int (cellV ns 0))) : xecs Φ G n (Bpick c) [some (false, .scr ns), some (false, .int k)] = .rt (.int (pickV ns k)) := by
 by_cases h : k < ns.length
 ·have e : decide ((k : Int) < (ns.length : Int)) = true := decide_eq_true (by omega)
  simp only [Bpick, xecs, xec, evT, ev, frz, leaksT, leaks, rdR, rdV, Za, Zc, Ze, Zf, Zk, Zl, Zq, if_true, ZC, ZK, ZN, e, cL h, Option.map_some]
  simp [pickV, cellV, h]
 ·have e : decide ((k : Int) < (ns.length : Int)) = false := decide_eq_false (by omega)
  have m1 : ∀ x : Int, op2 .mul (.int 7) (.int x) = .ok (.int (7 * x)) := fun x => jT _ _ (.inl (by decide))
  have m2 : ∀ x : Int, op2 .mul (.int x) (.int 48271) = .ok (.int (x * 48271)) := fun x => jT _ _ (.inr (by decide))
  have m3 : ∀ x : Int, op2 .mod (.int x) (.int 2147483647) = .ok (.int (x % 2147483647)) := fun x => dA _ _ (by decide)
  have m4 : ∀ x : Int, op2 .fdiv (.int x) (.int 13) = .ok (.int (x / 13)) := fun x => eG _ _ (by decide)
  simp only [Bpick, xecs, xec, evT, ev, evs, frz, frz1, leaksT, leaks, leakss, rdR, rdV, Za, Zc, Zf, Zk, Zl, Zq, if_true, if_false, Bool.false_eq_true, ZA, ZC, ZK, ZN, e, hc, m1, m2, m3, m4, pickV, if_neg h]
end
end Py
namespace Py
noncomputable def natL (xs : List Nat) : List D := xs.map fun k => .int (k : Nat)
structure Pr where
 owner : List Int
 left : List Nat
 name : Nat
noncomputable def atV (pk : Nat → Int) (s : Pr) : Nat := (1 + pk s.name % ((s.left.length : Int) - 1)).toNat
noncomputable def stepP (pk : Nat → Int) (s : Pr) : Pr :=
 ⟨(s.owner.set (s.left.getD 0 0) s.name).set (s.left.getD (atV pk s) 0) s.name, (s.left.drop 1).take (atV pk s - 1) ++ s.left.drop (atV pk s + 1), s.name + 1⟩
noncomputable def iterP (pk : Nat → Int) (s : Pr) : Nat → Pr
 | 0 => s
 | i + 1 => stepP pk (iterP pk s i)
noncomputable def runP (pk : Nat → Int) (s : Pr) : Pr := iterP pk s (s.left.length / 2)
theorem kZ {pk : Nat → Int} {s : Pr} (h : 1 < s.left.length) : 1 ≤ atV pk s ∧ atV pk s < s.left.length ∧ (atV pk s : Int) = 1 + pk s.name % ((s.left.length : Int) - 1) := by
 have h1 : (0 : Int) < (s.left.length : Int) - 1 := by omega
 have h2 := Int.emod_nonneg (pk s.name) (Int.ne_of_gt h1)
 have h3 := Int.emod_lt_of_pos (pk s.name) h1
 unfold atV
 omega
theorem nP {pk : Nat → Int} {s : Pr} (h : 1 < s.left.length) : (stepP pk s).left.length = s.left.length - 2 := by
 obtain ⟨h1, h2, _⟩ := kZ (pk := pk) h
 simp only [stepP, List.length_append, List.length_take, List.length_drop]
 omega
theorem bX {pk : Nat → Int} {s : Pr} : ∀ i, 2 * i ≤ s.left.length → (iterP pk s i).left.length = s.left.length - 2 * i ∧ (iterP pk s i).name = s.name + i
 | 0, _ => ⟨by simp [iterP], rfl⟩
 | i + 1, h => by
  obtain ⟨h1, h2⟩ := bX (pk := pk) (s := s) i (by omega)
  refine ⟨?_, ?_⟩
  ·rw [iterP, nP (by omega), h1]; omega
  ·show (iterP pk s i).name + 1 = _
   rw [h2]; omega
noncomputable def InP (s : Pr) : Prop := ∀ i ∈ s.left, i < s.owner.length
theorem p0 {pk : Nat → Int} {s : Pr} (h : InP s) : InP (stepP pk s) := by
 intro i hi
 simp only [stepP, List.length_set] at hi ⊢
 rcases List.mem_append.mp hi with z | z
 ·exact h i (List.mem_of_mem_drop (List.mem_of_mem_take z))
 ·exact h i (List.mem_of_mem_drop z)
theorem jU {pk : Nat → Int} {s : Pr} (h : InP s) : ∀ i, InP (iterP pk s i)
 | 0 => h
 | i + 1 => p0 (jU h i)
theorem dI {pk : Nat → Int} {s : Pr} : ∀ i, (iterP pk s i).owner.length = s.owner.length
 | 0 => rfl
 | i + 1 => by
  show ((_ : List Int).set _ _).length = _
  rw [List.length_set, List.length_set, dI i]
noncomputable def Bturn (p : Nat) : List Sm := [(.asg 8 (.op2 .add (.cst (.int 1)) (.op2 .mod (.call p [(.var 0), (.op2 .add (.var 1) (.var 7))]) (.op2 .sub (.op1 .len (.var 6)) (.cst (.int 1)))))), (.put 4 (.op2 .at (.var 6) (.cst (.int 0))) (.var 7)), (.put 4 (.op2 .at (.var 6) (.var 8)) (.var 7)), (.asg 6 (.op2 .add (.slc (.var 6) (some (.cst (.int 1))) (some (.var 8))) (.slc (.var 6) (some (.op2 .add (.var 8) (.cst (.int 1)))) none))), (.asg 7 (.op2 .add (.var 7) (.cst (.int 1))))]
section
variable {Φ : Nat → List D → R D} {G : List D} {n : Nat}
theorem hJ {xs : List Nat} {i : Nat} (h : i < xs.length) : (natL xs)[i]'(by simpa [natL] using h) = .int (xs.getD i 0 : Nat) := by
 simp [natL, h]
theorem jV {xs : List Nat} {i : Nat} (h : i < xs.length) : xs.getD i 0 ∈ xs := by
 simp [List.getD, List.getElem?_eq_getElem h]
theorem p6 {p : Nat} {ns : List Int} {start many : Int} {c3 c5 c8 : Slot} {pk : Nat → Int} (s : Pr) (hp : Φ p [.scr ns, .int (start + (s.name : Nat))] = .ok (.int (pk s.name))) (hl : 1 < s.left.length) (hll : s.left.length ≤ 1000) (hin : InP s) :
  xecs Φ G n (Bturn p) [some (false, .scr ns), some (false, .int start), some (false, .int many), c3, some (true, .lst (intL s.owner)), c5, some (true, .lst (natL s.left)), some (false, .int (s.name : Nat)), c8] =
  .nx [some (false, .scr ns), some (false, .int start), some (false, .int many), c3, some (true, .lst (intL (stepP pk s).owner)), c5, some (true, .lst (natL (stepP pk s).left)), some (false, .int ((stepP pk s).name : Nat)), some (false, .int (atV pk s : Nat))] := by
 obtain ⟨h1, h2, h3⟩ := kZ (pk := pk) hl
 have hlen : (natL s.left).length = s.left.length := by simp [natL]
 have e1 : (0 : Int) < (s.left.length : Int) - 1 := by omega
 have e2 : atD (natL s.left) 0 = some (.int (s.left.getD 0 0 : Nat)) := by
  have := cL (xs := natL s.left) (i := 0) (by rw [hlen]; omega)
  rw [hJ (by omega)] at this
  exact this
 have e3 : atD (natL s.left) (atV pk s : Nat) = some (.int (s.left.getD (atV pk s) 0 : Nat)) := by
  have := cL (xs := natL s.left) (i := atV pk s) (by rw [hlen]; omega)
  rw [hJ (by omega)] at this
  exact this
 have m1 : s.left.getD 0 0 < s.owner.length := hin _ (jV (by omega))
 have m2 : s.left.getD (atV pk s) 0 < s.owner.length := hin _ (jV (by omega))
 have i1 : ixD (intL s.owner).length (s.left.getD 0 0 : Nat) = some (s.left.getD 0 0) := fY (by simpa [intL] using m1)
 have i2 : ixD ((intL s.owner).set (s.left.getD 0 0) (.int s.name)).length (s.left.getD (atV pk s) 0 : Nat) = some (s.left.getD (atV pk s) 0) := fY (by simpa [intL] using m2)
 have c1 : cut (natL s.left) (some 1) (some (atV pk s : Nat)) = natL ((s.left.drop 1).take (atV pk s - 1)) := by
  have := mF (natL s.left) 1 (atV pk s)
  simp only [natL, List.map_take, List.map_drop] at this ⊢
  exact this
 have c2 : cut (natL s.left) (some ((atV pk s : Nat) + 1)) none = natL (s.left.drop (atV pk s + 1)) := by
  have := pY (natL s.left) (atV pk s + 1)
  simp only [natL, List.map_drop] at this ⊢
  exact this
 have l1 : (natL ((s.left.drop 1).take (atV pk s - 1))).length + (natL (s.left.drop (atV pk s + 1))).length ≤ LIM := by
  simp only [natL, List.length_map, List.length_take, List.length_drop]
  have : LIM = 100000 := rfl
  omega
 simp only [Bturn, xecs, xec, ev, evs, evP, frz, frz1, leaks, leakss, leaksP, rdR, rdV, Zc, asI, isOwn, frsh, slc, Ze, Zf, Zi, Zj, Zk, Zl, Zo, Zq, if_true, if_false, Bool.false_eq_true, Zt, ZA, ZB, ZI, ZL, hp, hlen, dA _ _ e1, h3.symm, ownL, putD, e2, e3, i1, i2, c1, c2, o_addL _ _ l1]
 simp [stepP, intL, natL, List.map_set]
end
end Py
namespace Py
section
variable {Φ : Nat → List D → R D} {G : List D} {n : Nat}
noncomputable def pairD (x : Nat × Nat) : D := .tup [.int (x.1 : Nat), .int (x.2 : Nat)]
noncomputable def fixT (fx : List (Nat × Nat)) (o : List Int) : Nat → List Int
 | 0 => o
 | i + 1 => ((fixT fx o i).set (fx.getD i (0, 0)).1 i).set (fx.getD i (0, 0)).2 i
noncomputable def freeP (o : List Int) : List Nat := (List.range o.length).filter fun k => decide (o.getD k 0 < 0)
noncomputable def startP (m : Nat) (fx : List (Nat × Nat)) : Pr := ⟨fixT fx (List.replicate (4 * m) (-1)) fx.length, freeP (fixT fx (List.replicate (4 * m) (-1)) fx.length), fx.length⟩
noncomputable def chunks (m : Nat) (o : List Int) : List (List Int) := (List.range m).map fun k => (o.drop (4 * k)).take 4
noncomputable def Brows (p : Nat) : List Sm := [(.asg 4 (.comp .rng [(.op2 .mul (.cst (.int 4)) (.var 2))] [] 1 none (.op1 .neg (.cst (.int 1))))), (.loop .rng [(.op1 .len (.var 3))] [5] [(.put 4 (.op2 .at (.op2 .at (.var 3) (.var 5)) (.cst (.int 0))) (.var 5)), (.put 4 (.op2 .at (.op2 .at (.var 3) (.var 5)) (.cst (.int 1))) (.var 5))]), (.asg 6 (.comp .rng [(.op2 .mul (.cst (.int 4)) (.var 2))] [4] 1 (some (.leaf (.op2 .lt (.op2 .at (.var 1) (.var 0)) (.cst (.int 0))))) (.var 0))), (.asg 7 (.op1 .len (.var 3))), (.whl (.leaf (.op2 .gt (.op1 .len (.var 6)) (.cst (.int 1)))) (Bturn p)), (.ret (.comp .rng [(.var 2)] [4] 1 none (.op1 .tuple (.slc (.var 1) (some (.op2 .mul (.cst (.int 4)) (.var 0))) (some (.op2 .add (.op2 .mul (.cst (.int 4)) (.var 0)) (.cst (.int 4))))))))]
theorem mul4 (x : Int) : op2 .mul (.int 4) (.int x) = .ok (.int (4 * x)) := jT _ _ (.inl (by decide))
theorem mul2 (x : Int) : op2 .mul (.int 2) (.int x) = .ok (.int (2 * x)) := jT _ _ (.inl (by decide))
theorem gA {x : Int} {m : Nat} (e : x = (m : Nat)) (h : m ≤ 1000) : itemsD .rng [.int x] = .ok (rangeD 0 m) := by rw [e]; exact bV h
theorem cO (m : Nat) : rangeD 0 m = natL (List.range m) := by simp [rangeD, natL]
theorem cP (fx : List (Nat × Nat)) (o : List Int) : ∀ i, (fixT fx o i).length = o.length
 | 0 => rfl
 | i + 1 => by simp [fixT, cP fx o i]
noncomputable def lastV (c : Slot) : Nat → Slot
 | 0 => c
 | i + 1 => some (false, .int (i : Nat))
noncomputable def lastA (pk : Nat → Int) (s : Pr) : Nat → Slot
 | 0 => none
 | i + 1 => some (false, .int (atV pk (iterP pk s i) : Nat))
theorem rows1 {ns : List Int} {start : Int} {m : Nat} {c3 c4 c5 c6 c7 c8 : Slot} (hm : m ≤ 100) :
  xec Φ G n (.asg 4 (.comp .rng [(.op2 .mul (.cst (.int 4)) (.var 2))] [] 1 none (.op1 .neg (.cst (.int 1))))) [some (false, .scr ns), some (false, .int start), some (false, .int (m : Nat)), c3, c4, c5, c6, c7, c8] =
  .nx [some (false, .scr ns), some (false, .int start), some (false, .int (m : Nat)), c3, some (true, .lst (intL (List.replicate (4 * m) (-1)))), c5, c6, c7, c8] := by
 have h1 : itemsD .rng [.int (4 * (m : Nat))] = .ok (rangeD 0 (4 * m)) := gA (by omega) (by omega)
 simp only [xec, ev, evs, evO, frz, leaks, leakss, leaksO, rdR, rdV, spread, isOwn, frsh, Zf, Zi, Zj, Zk, Zl, Zq, if_true, Zt, ZO, mul4, h1, List.filterMap_nil]
 rw [cG (fun _ => .int (-1)) _ fun x hx => rfl]
 simp only [Zc, Zf, Zh]
 congr 1
 simp [rangeD, intL, List.map_const', Function.comp_def]
theorem rows2 {ns : List Int} {start : Int} {m : Nat} {o : List Int} {fx : List (Nat × Nat)} {c5 c6 c7 c8 : Slot} (hl : fx.length ≤ 1000) (hf : ∀ x ∈ fx, x.1 < o.length ∧ x.2 < o.length) :
  xec Φ G n (.loop .rng [(.op1 .len (.var 3))] [5] [(.put 4 (.op2 .at (.op2 .at (.var 3) (.var 5)) (.cst (.int 0))) (.var 5)), (.put 4 (.op2 .at (.op2 .at (.var 3) (.var 5)) (.cst (.int 1))) (.var 5))]) [some (false, .scr ns), some (false, .int start), some (false, .int (m : Nat)), some (false, .lst (fx.map pairD)), some (true, .lst (intL o)), c5, c6, c7, c8] =
  .nx [some (false, .scr ns), some (false, .int start), some (false, .int (m : Nat)), some (false, .lst (fx.map pairD)), some (true, .lst (intL (fixT fx o fx.length))), lastV c5 fx.length, c6, c7, c8] := by
 have h1 : itemsD .rng [.int ((fx.map pairD).length : Nat)] = .ok (rangeD 0 fx.length) := by rw [List.length_map]; exact bV hl
 simp only [xec, xecs, xec, ev, evs, frz, frz1, leaks, leakss, rdR, rdV, Zc, spread, Zf, Zh, Zk, Zl, Zq, if_true, if_false, Bool.false_eq_true, ZL, h1]
 refine pX fx.length (fun i => [some (false, .scr ns), some (false, .int start), some (false, .int (m : Nat)), some (false, .lst (fx.map pairD)), some (true, .lst (intL (fixT fx o i))), lastV c5 i, c6, c7, c8]) fun i hi => ?_
 have g1 : atD (fx.map pairD) (i : Nat) = some (pairD (fx.getD i (0, 0))) := by
  rw [cL (by simpa using hi)]
  simp [hi]
 obtain ⟨b1, b2⟩ := hf (fx.getD i (0, 0)) (by simp [List.getD, List.getElem?_eq_getElem hi])
 have i1 : ixD (intL (fixT fx o i)).length ((fx.getD i (0, 0)).1 : Nat) = some (fx.getD i (0, 0)).1 := fY (by simpa [intL, cP] using b1)
 have i2 : ixD ((intL (fixT fx o i)).set (fx.getD i (0, 0)).1 (.int (i : Nat))).length ((fx.getD i (0, 0)).2 : Nat) = some (fx.getD i (0, 0)).2 := fY (by simpa [intL, cP] using b2)
 have a0 : ∀ x : Nat × Nat, atD [D.int (x.1 : Nat), D.int (x.2 : Nat)] 0 = some (.int (x.1 : Nat)) := fun _ => rfl
 have a1 : ∀ x : Nat × Nat, atD [D.int (x.1 : Nat), D.int (x.2 : Nat)] 1 = some (.int (x.2 : Nat)) := fun _ => rfl
 simp only [Zc, Py.sets, Ze, Zf, Zi, Zj, Zk, Zl, if_true, ZI, ZJ, ownL, putD, g1, pairD, a0, a1, i1, i2, List.length_cons, List.length_nil, Nat.zero_add]
 simp [fixT, lastV, intL, List.map_set]
theorem rows3 {ns : List Int} {start : Int} {m : Nat} {o : List Int} {c3 c5 c6 c7 c8 : Slot} (hm : m ≤ 100) (ho : o.length = 4 * m) :
  xec Φ G n (.asg 6 (.comp .rng [(.op2 .mul (.cst (.int 4)) (.var 2))] [4] 1 (some (.leaf (.op2 .lt (.op2 .at (.var 1) (.var 0)) (.cst (.int 0))))) (.var 0))) [some (false, .scr ns), some (false, .int start), some (false, .int (m : Nat)), c3, some (true, .lst (intL o)), c5, c6, c7, c8] =
  .nx [some (false, .scr ns), some (false, .int start), some (false, .int (m : Nat)), c3, some (true, .lst (intL o)), c5, some (true, .lst (natL (freeP o))), c7, c8] := by
 have h1 : itemsD .rng [.int (4 * (m : Nat))] = .ok (rangeD 0 (4 * m)) := gA (by omega) (by omega)
 simp only [xec, evT, ev, evs, evO, frz, leaksT, leaks, leakss, leaksO, rdR, rdV, spread, capOf, isOwn, frsh, Zf, Zi, Zj, Zk, Zl, Zm, Zn, Zo, Zp, Zq, if_true, if_false, Bool.false_eq_true, Zt, Zx, mul4, h1, List.filterMap_nil, List.filterMap_cons, Nat.reduceLT, Nat.lt_irrefl]
 rw [cO]
 have key : ∀ k : Nat, k < 4 * m → atD (intL o) (k : Nat) = some (.int (o.getD k 0)) := fun k hk => by
  rw [cL (by simpa [intL, ho] using hk)]
  simp [intL, ho, hk]
 rw [cK (fun x => match x with | .int k => decide (o.getD k.toNat 0 < 0) | _ => false) (fun x => x) _ fun x hx => ?_]
 ·simp only [Zc, Zf, Zh, freeP, ho]
  congr 1
  simp [natL, List.filter_map, Function.comp_def]
 ·obtain ⟨k, hk, rfl⟩ := List.mem_map.mp hx
  have hk' : k < 4 * m := List.mem_range.mp hk
  simp only [Za, Ze, Zf, ZC, ZI, key k hk', Int.toNat_natCast]
  by_cases hc : o.getD k 0 < 0
  ·simp only [hc, decide_true, if_true]
  ·simp only [hc, decide_false, if_false, Bool.false_eq_true]
theorem rows6 {ns : List Int} {start : Int} {m : Nat} {o : List Int} {c3 c5 c6 c7 c8 : Slot} (hm : m ≤ 100) :
  xec Φ G n (.ret (.comp .rng [(.var 2)] [4] 1 none (.op1 .tuple (.slc (.var 1) (some (.op2 .mul (.cst (.int 4)) (.var 0))) (some (.op2 .add (.op2 .mul (.cst (.int 4)) (.var 0)) (.cst (.int 4)))))))) [some (false, .scr ns), some (false, .int start), some (false, .int (m : Nat)), c3, some (true, .lst (intL o)), c5, c6, c7, c8] =
  .rt (.lst ((chunks m o).map rowD)) := by
 have h1 : itemsD .rng [.int (m : Nat)] = .ok (rangeD 0 m) := bV (by omega)
 simp only [xec, ev, evs, evP, evO, frz, leaks, leakss, leaksP, leaksO, rdR, rdV, asI, spread, capOf, slc, Zf, Zk, Zl, Zm, Zn, Zo, Zp, Zq, if_true, Zx, h1, List.filterMap_nil, List.filterMap_cons]
 rw [cO, cG (fun x => match x with | .int k => rowD ((o.drop (4 * k.toNat)).take 4) | _ => .non) _ fun x hx => ?_]
 ·simp only [Zc, Zf, Zh]
  congr 1
  simp [natL, chunks, Function.comp_def]
 ·obtain ⟨k, hk, rfl⟩ := List.mem_map.mp hx
  have c : cut (intL o) (some (4 * (k : Nat))) (some (4 * (k : Nat) + 4)) = intL ((o.drop (4 * k)).take 4) := by
   have := mF (intL o) (4 * k) (4 * k + 4)
   simp only [intL, List.map_take, List.map_drop] at this ⊢
   rw [show 4 * k + 4 - 4 * k = 4 by omega] at this
   push_cast at this
   exact this
  simp only [Zf, ZA, ZP, mul4, c, rowD, Int.toNat_natCast]
theorem jW {p : Nat} {ns : List Int} {start : Nat} {m : Nat} {fx : List (Nat × Nat)} (hm : m ≤ 100) (hl : fx.length ≤ 1000) (hf : ∀ x ∈ fx, x.1 < 4 * m ∧ x.2 < 4 * m) (hp : ∀ k, Φ p [.scr ns, .int (k : Nat)] = .ok (.int (pickV ns k))) (hn : 300 < n) :
  xecs Φ G n (Brows p) [some (false, .scr ns), some (false, .int (start : Nat)), some (false, .int (m : Nat)), some (false, .lst (fx.map pairD)), none, none, none, none, none] = .rt (.lst ((chunks m (runP (fun k => pickV ns (start + k)) (startP m fx)).owner).map rowD)) := by
 have hlen : (fixT fx (List.replicate (4 * m) (-1)) fx.length).length = 4 * m := by rw [cP]; simp
 have hin : InP (startP m fx) := fun i hi => by
  have hi' : i ∈ freeP (fixT fx (List.replicate (4 * m) (-1)) fx.length) := hi
  rw [freeP, List.mem_filter] at hi'
  exact List.mem_range.mp hi'.1
 have hll : (startP m fx).left.length ≤ 4 * m := by
  show (freeP _).length ≤ _
  rw [freeP]
  refine Nat.le_trans (List.length_filter_le _ _) ?_
  rw [List.length_range, hlen]
  exact Nat.le_refl _
 generalize hs : startP m fx = s at *
 have so : fixT fx (List.replicate (4 * m) (-1)) fx.length = s.owner := by rw [← hs]; rfl
 have sl : freeP (fixT fx (List.replicate (4 * m) (-1)) fx.length) = s.left := by rw [← hs]; rfl
 have sn : fx.length = s.name := by rw [← hs]; rfl
 let pk : Nat → Int := fun k => pickV ns (start + k)
 let st : Nat → Sto := fun i => [some (false, .scr ns), some (false, .int (start : Nat)), some (false, .int (m : Nat)), some (false, .lst (fx.map pairD)), some (true, .lst (intL (iterP pk s i).owner)), lastV none fx.length, some (true, .lst (natL (iterP pk s i).left)), some (false, .int ((iterP pk s i).name : Nat)), lastA pk s i]
 have e7 : xec Φ G n (.asg 7 (.op1 .len (.var 3))) [some (false, .scr ns), some (false, .int (start : Nat)), some (false, .int (m : Nat)), some (false, .lst (fx.map pairD)), some (true, .lst (intL s.owner)), lastV none fx.length, some (true, .lst (natL s.left)), none, none] = .nx (st 0) := by
  simp only [xec, ev, frz, leaks, rdR, rdV, Zc, isOwn, frsh, Zf, Zi, Zj, Zk, Zl, if_true, Zu, ZL, List.length_map, sn, st, iterP, lastA]
 have ew : xec Φ G n (.whl (.leaf (.op2 .gt (.op1 .len (.var 6)) (.cst (.int 1)))) (Bturn p)) (st 0) = .nx (st (s.left.length / 2)) := by
  have z := mE (c := evT Φ G (.leaf (.op2 .gt (.op1 .len (.var 6)) (.cst (.int 1))))) (fz := frz (leaksT (.leaf (.op2 .gt (.op1 .len (.var 6)) (.cst (.int 1)))))) (b := xecs Φ G n (Bturn p)) (s.left.length / 2) n st (by omega) (fun i hi => ⟨?_, ?_⟩) ?_
  ·simpa only [xec, xecs, xec, evT, ev, evs, evP, evO, frz, frz1, leaksT, leaks, leakss, leaksP, leaksO, rdR, rdV, Za, Zb, Zc, Zd, asB, asI, Py.sets, spread, capOf, isOwn, frsh, slc, Ze, Zf, Zg, Zh, Zi, Zj, Zk, Zl, Zm, Zn, Zo, Zp, Zq, if_true, if_false, Bool.false_eq_true, Zr, Zs, Zt, Zu, Zv, Zw, Zx, ZA, ZB, ZC, ZD, ZE, ZF, ZG, ZH, ZI, ZJ, ZK, ZL, ZM, ZN, ZO, ZP, ZQ, ZR, ZS, ZT, ZU] using z
  ·have hl := (bX (pk := pk) (s := s) i (by omega)).1
   have : decide ((1 : Int) < (((natL (iterP pk s i).left).length : Nat) : Int)) = true := decide_eq_true (by simp only [natL, List.length_map]; omega)
   simp only [evT, ev, frz, leaksT, leaks, rdR, rdV, Za, Zf, Zk, Zl, Zq, if_true, ZE, ZL, st, this]
  ·have hl := (bX (pk := pk) (s := s) i (by omega)).1
   have hpk : Φ p [.scr ns, .int ((start : Int) + ((iterP pk s i).name : Nat))] = .ok (.int (pk (iterP pk s i).name)) := by
    have := hp (start + (iterP pk s i).name)
    push_cast at this
    exact this
   have := p6 (Φ := Φ) (G := G) (n := n) (start := (start : Nat)) (many := (m : Nat)) (c3 := some (false, .lst (fx.map pairD))) (c5 := lastV none fx.length) (c8 := lastA pk s i) (iterP pk s i) hpk (by omega) (by omega) (jU hin i)
   simpa only [xecs, xec, evT, ev, evs, evP, evO, frz, frz1, leaksT, leaks, leakss, leaksP, leaksO, rdR, rdV, Za, Zb, Zc, Zd, asB, asI, Py.sets, spread, capOf, isOwn, frsh, slc, Ze, Zf, Zg, Zh, Zi, Zj, Zk, Zl, Zm, Zn, Zo, Zp, Zq, if_true, if_false, Bool.false_eq_true, Zr, Zs, Zt, Zu, Zv, Zw, Zx, ZA, ZB, ZC, ZD, ZE, ZF, ZG, ZH, ZI, ZJ, ZK, ZL, ZM, ZN, ZO, ZP, ZQ, ZR, ZS, ZT, ZU, st, iterP, lastA] using this
  ·have hl := (bX (pk := pk) (s := s) (s.left.length / 2) (by omega)).1
   have : decide ((1 : Int) < (((natL (iterP pk s (s.left.length / 2)).left).length : Nat) : Int)) = false := decide_eq_false (by simp only [natL, List.length_map]; omega)
   simp only [evT, ev, frz, leaksT, leaks, rdR, rdV, Za, Zf, Zk, Zl, Zq, if_true, ZE, ZL, st, this]
 unfold Brows
 rw [xecs, rows1 hm]
 dsimp only
 rw [xecs, rows2 hl (by simpa using hf)]
 dsimp only
 rw [xecs, rows3 hm hlen]
 dsimp only
 rw [so, ← so, sl, so, xecs, e7]
 dsimp only
 rw [xecs, ew]
 dsimp only
 rw [xecs, rows6 hm]
 rfl
end
end Py
namespace Py
structure GP (s : Pr) : Prop where
 nd : s.left.Nodup
 neg : ∀ i ∈ s.left, s.owner[i]? = some (-1)
 oth : ∀ (i : Nat) x, s.owner[i]? = some x → i ∉ s.left → ∃ v : Nat, v < s.name ∧ x = (v : Int)
 two : ∀ v : Nat, v < s.name → s.owner.count (v : Int) = 2
 sz : s.left.length + 2 * s.name = s.owner.length
theorem GP.big {s : Pr} (g : GP s) {v : Nat} (h : s.name ≤ v) : s.owner.count (v : Int) = 0 := by
 rw [List.count_eq_zero]
 intro hm
 obtain ⟨i, hi, e⟩ := List.getElem_of_mem hm
 have e' : s.owner[i]? = some (v : Int) := by rw [List.getElem?_eq_getElem hi, e]
 by_cases hl : i ∈ s.left
 ·rw [g.neg i hl] at e'
  have : (-1 : Int) = (v : Int) := Option.some.inj e'
  omega
 ·obtain ⟨u, hu, e2⟩ := g.oth i _ e' hl
  omega
theorem gB {o : List Int} {i : Nat} {x y z : Int} (h : o[i]? = some z) (hz : z ≠ y) : (o.set i x).count y = o.count y + (if x = y then 1 else 0) := by
 obtain ⟨hi, e⟩ := List.getElem?_eq_some_iff.mp h
 rw [List.count_set hi]
 have : (o[i] == y) = false := by rw [e]; simpa using hz
 rw [this]
 by_cases hx : x = y <;> simp [hx]
theorem GP.pair {o : List Int} {mid tail l : List Nat} {a b nm : Nat} (g : GP ⟨o, l, nm⟩) (hp : l.Perm (a :: b :: (mid ++ tail))) : GP ⟨(o.set a nm).set b nm, mid ++ tail, nm + 1⟩ := by
 have nd := hp.nodup_iff.mp g.nd
 have na : a ∉ b :: (mid ++ tail) := (List.nodup_cons.mp nd).1
 have nd2 := (List.nodup_cons.mp nd).2
 have nb : b ∉ mid ++ tail := (List.nodup_cons.mp nd2).1
 have nd3 : (mid ++ tail).Nodup := (List.nodup_cons.mp nd2).2
 have hab : a ≠ b := fun e => na (by simp [e])
 have ha : o[a]? = some (-1) := g.neg a (hp.mem_iff.mpr (by simp))
 have hb : o[b]? = some (-1) := g.neg b (hp.mem_iff.mpr (by simp))
 have hb' : (o.set a (nm : Int))[b]? = some (-1) := by rw [List.getElem?_set_ne hab]; exact hb
 have la := (List.getElem?_eq_some_iff.mp ha).1
 have lb := (List.getElem?_eq_some_iff.mp hb).1
 refine ⟨nd3, fun i hi => ?_, fun i x e hi => ?_, fun v hv => ?_, ?_⟩
 ·have h1 : b ≠ i := fun e => nb (e ▸ hi)
  have h2 : a ≠ i := fun e => na (by rw [e]; simp [hi])
  show ((o.set a (nm : Int)).set b (nm : Int))[i]? = _
  rw [List.getElem?_set_ne h1, List.getElem?_set_ne h2]
  exact g.neg i (hp.mem_iff.mpr (by simp only [List.mem_cons]; exact .inr (.inr hi)))
 ·have e : ((o.set a (nm : Int)).set b (nm : Int))[i]? = some x := e
  by_cases h1 : b = i
  ·subst h1
   rw [List.getElem?_set_self (by simpa using lb)] at e
   exact ⟨nm, Nat.lt_succ_self _, (Option.some.inj e).symm⟩
  ·rw [List.getElem?_set_ne h1] at e
   by_cases h2 : a = i
   ·subst h2
    rw [List.getElem?_set_self la] at e
    exact ⟨nm, Nat.lt_succ_self _, (Option.some.inj e).symm⟩
   ·rw [List.getElem?_set_ne h2] at e
    obtain ⟨v, hv, ex⟩ := g.oth i x e fun hl => by
     have := hp.mem_iff.mp hl
     simp only [List.mem_cons] at this
     rcases this with z | z | z
     ·exact h2 z.symm
     ·exact h1 z.symm
     ·exact hi z
    exact ⟨v, Nat.lt_succ_of_lt hv, ex⟩
 ·show ((o.set a (nm : Int)).set b (nm : Int)).count (v : Int) = 2
  rw [gB hb' (by omega), gB ha (by omega)]
  by_cases hvn : v = nm
  ·subst hvn
   have := g.big (v := v) (Nat.le_refl _)
   simp only [] at this
   rw [this]; simp
  ·have h2 : o.count (v : Int) = 2 := g.two v (show v < nm by have : v < nm + 1 := hv; omega)
   have hne : ¬ ((nm : Int) = (v : Int)) := by omega
   rw [h2, if_neg hne]
 ·have := g.sz
  have hl := hp.length_eq
  simp only [List.length_cons, List.length_append, List.length_set] at *
  omega
theorem GP.step {pk : Nat → Int} {s : Pr} (g : GP s) (h : 1 < s.left.length) : GP (stepP pk s) := by
 obtain ⟨h1, h2, _⟩ := kZ (pk := pk) h
 obtain ⟨o, l, nm⟩ := s
 generalize hj : atV pk ⟨o, l, nm⟩ = j at *
 have h2 : j < l.length := h2
 match l, h, h2 with
 | a :: rest, h, h2 =>
  have hb : j - 1 < rest.length := by simp only [List.length_cons] at h2; omega
  have e0 : (a :: rest).getD j 0 = rest[j - 1] := by
   obtain ⟨j', rfl⟩ : ∃ j', j = j' + 1 := ⟨j - 1, by omega⟩
   simp only [Nat.add_sub_cancel] at hb ⊢
   simp [hb]
  have ed : (a :: rest).drop (j + 1) = rest.drop j := by simp
  have er : rest = rest.take (j - 1) ++ rest[j - 1] :: rest.drop j := by
   have := List.take_append_drop (j - 1) rest
   rw [List.drop_eq_getElem_cons hb, show j - 1 + 1 = j by omega] at this
   exact this.symm
  have hp : (a :: rest).Perm (a :: rest[j - 1] :: (rest.take (j - 1) ++ rest.drop j)) := by
   refine List.Perm.cons a ?_
   conv => lhs; rw [er]
   exact List.perm_middle
  have := GP.pair g hp
  simp only [stepP, hj, e0, ed, List.drop_succ_cons, List.drop_zero, List.getD_cons_zero]
  exact this
theorem GP.iter {pk : Nat → Int} {s : Pr} (g : GP s) : ∀ i, 2 * i ≤ s.left.length → GP (iterP pk s i)
 | 0, _ => g
 | i + 1, h => GP.step (GP.iter g i (by omega)) (by rw [(bX i (by omega)).1]; omega)
structure Two (W : List Int) (N : Nat) : Prop where
 rng : ∀ x ∈ W, 0 ≤ x ∧ x < (N : Int)
 cnt : ∀ v : Nat, v < N → W.count (v : Int) = 2
theorem GP.run {pk : Nat → Int} {s : Pr} {m : Nat} (g : GP s) (hm : s.owner.length = 4 * m) : Two (runP pk s).owner (2 * m) ∧ (runP pk s).owner.length = 4 * m := by
 have gi := g.iter (pk := pk) (s.left.length / 2) (by omega)
 have hl := bX (pk := pk) (s := s) (s.left.length / 2) (by omega)
 have ho := dI (pk := pk) (s := s) (s.left.length / 2)
 have hz := g.sz
 have e0 : (iterP pk s (s.left.length / 2)).left = [] := List.eq_nil_of_length_eq_zero (by rw [hl.1]; omega)
 have en : (iterP pk s (s.left.length / 2)).name = 2 * m := by rw [hl.2]; omega
 refine ⟨⟨fun x hx => ?_, fun v hv => ?_⟩, by rw [runP, ho, hm]⟩
 ·obtain ⟨i, hi, e⟩ := List.getElem_of_mem hx
  obtain ⟨v, hv, ex⟩ := gi.oth i x (show (runP pk s).owner[i]? = some x by rw [List.getElem?_eq_getElem hi, e]) (by rw [e0]; simp)
  rw [en] at hv
  omega
 ·exact gi.two v (by rw [en]; exact hv)
theorem GP.start0 (m : Nat) : GP (startP m []) := by
 have e1 : (startP m []).owner = List.replicate (4 * m) (-1) := rfl
 have e2 : (startP m []).left = List.range (4 * m) := by
  show freeP (List.replicate (4 * m) (-1)) = _
  rw [freeP, List.length_replicate]
  rw [List.filter_eq_self]
  intro k hk
  have hk' : k < 4 * m := List.mem_range.mp hk
  simp [List.getD, List.getElem?_replicate, hk']
 have e3 : (startP m []).name = 0 := rfl
 refine ⟨by rw [e2]; exact List.nodup_range, fun i hi => ?_, fun i x e hi => ?_, fun v hv => ?_, by rw [e1, e2, e3]; simp⟩
 ·rw [e2] at hi
  rw [e1, List.getElem?_replicate, if_pos (List.mem_range.mp hi)]
 ·rw [e1, List.getElem?_replicate] at e
  by_cases hc : i < 4 * m
  ·exact absurd (by rw [e2]; exact List.mem_range.mpr hc) hi
  ·rw [if_neg hc] at e; cases e
 ·rw [e3] at hv; exact absurd hv (Nat.not_lt_zero _)
end Py
namespace Py
theorem gC {f : D → Sto → Out} : ∀ (xs : List D) (Q : Nat → Sto → Prop), (∀ i (h : i < xs.length) δ, Q i δ → ∃ δ', f xs[i] δ = .nx δ' ∧ Q (i + 1) δ') → ∀ δ, Q 0 δ → ∃ δ', forM f xs δ = .nx δ' ∧ Q xs.length δ'
 | [], Q, _, δ, q => ⟨δ, rfl, q⟩
 | x :: r, Q, h, δ, q => by
  obtain ⟨δ1, e1, q1⟩ := h 0 (by simp) δ q
  obtain ⟨δ2, e2, q2⟩ := gC r (fun i => Q (i + 1)) (fun i hi => h (i + 1) (by simpa using hi)) δ1 q1
  exact ⟨δ2, by rw [Py.forM.eq_2, show f x δ = .nx δ1 from e1]; exact e2, q2⟩
theorem nQ {f : D → Sto → Out} (n : Nat) (Q : Nat → Sto → Prop) (h : ∀ i, i < n → ∀ δ, Q i δ → ∃ δ', f (.int (i : Nat)) δ = .nx δ' ∧ Q (i + 1) δ') (δ : Sto) (q : Q 0 δ) : ∃ δ', forM f (rangeD 0 n) δ = .nx δ' ∧ Q n δ' := by
 have := gC (f := f) (rangeD 0 n) Q (fun i hi δ q => by
  have hi' : i < n := by simpa [rangeD] using hi
  have e : (rangeD 0 n)[i] = .int (i : Nat) := by simp [rangeD]
  rw [e]; exact h i hi' δ q) δ q
 rwa [fX] at this
noncomputable def loopF (Φ : Nat → List D → R D) (G : List D) (n : Nat) (tg : List Nat) (body : List Sm) : D → Sto → Out := fun x δ' => match spread tg.length x with
 | none => .bad
 | some ts => xecs Φ G n body (sets δ' tg ts)
theorem cH {Φ : Nat → List D → R D} {G : List D} {n : Nat} {k : IterK} {its : List Ex} {tg : List Nat} {body : List Sm} {δ : Sto} {xs : List D} (h : (evs Φ G false its (frz (leakss false its) δ)).bind (itemsD k) = .ok xs) : xec Φ G n (.loop k its tg body) δ = forM (loopF Φ G n tg body) xs (frz (leakss false its) δ) := by
 simp only [xec]
 rw [h]
 rfl
theorem cQ {Φ : Nat → List D → R D} {G : List D} {n : Nat} {k : IterK} {its : List Ex} {tg : List Nat} {body : List Sm} {δ : Sto} {xs : List D} (h : (evs Φ G false its (frz (leakss false its) δ)).bind (itemsD k) = .ok xs) (Q : Nat → Sto → Prop) (q0 : Q 0 (frz (leakss false its) δ))
  (st : ∀ i (h : i < xs.length) δ, Q i δ → ∃ δ', loopF Φ G n tg body xs[i] δ = .nx δ' ∧ Q (i + 1) δ') : ∃ δ', xec Φ G n (.loop k its tg body) δ = .nx δ' ∧ Q xs.length δ' := by
 rw [cH h]
 exact gC xs Q st _ q0
theorem jX {Φ : Nat → List D → R D} {G : List D} {n : Nat} {its : List Ex} {tg : List Nat} {body : List Sm} {δ : Sto} {m : Nat} (h : (evs Φ G false its (frz (leakss false its) δ)).bind (itemsD .rng) = .ok (rangeD 0 m)) (Q : Nat → Sto → Prop) (q0 : Q 0 (frz (leakss false its) δ))
  (st : ∀ i, i < m → ∀ δ, Q i δ → ∃ δ', loopF Φ G n tg body (.int (i : Nat)) δ = .nx δ' ∧ Q (i + 1) δ') : ∃ δ', xec Φ G n (.loop .rng its tg body) δ = .nx δ' ∧ Q m δ' := by
 rw [cH h]
 exact nQ m Q st _ q0
theorem aG {Φ : Nat → List D → R D} {G : List D} {n : Nat} {s : Sm} {ss : List Sm} {δ δ' : Sto} (h : xec Φ G n s δ = .nx δ') : xecs Φ G n (s :: ss) δ = xecs Φ G n ss δ' := by rw [xecs, h]
theorem mG {Φ : Nat → List D → R D} {G : List D} {n : Nat} {i : Nat} {e : Ex} {δ : Sto} {v : D} {xs : List D} (hl : frz (leaks false e) δ = δ) (he : ev Φ G false e δ = .ok v) (hi : δ[i]? = some (some (true, .lst xs))) (hx : xs.length < LIM) : xec Φ G n (.app i e) δ = .nx (δ.set i (some (true, .lst (xs ++ [v])))) := by
 simp only [xec, hl, he, of_ok, ownL, hi, if_true, appD, hx]
theorem xec_asg {Φ : Nat → List D → R D} {G : List D} {n : Nat} {i : Nat} {e : Ex} {δ : Sto} {v : D} (hl : frz (leaks false e) δ = δ) (he : ev Φ G false e δ = .ok v) : xec Φ G n (.asg i e) δ = .nx (δ.set i (some (frsh e && isOwn v, v))) := by
 simp only [xec, hl, he, of_ok]
theorem hU (xs : List Int) : (intL xs).all flat = true := by simp [intL, flat]
theorem nR (x : Int) (xs : List Int) : isin (.int x) (.lst (intL xs)) = .ok (decide (x ∈ xs)) := by
 have h1 : (flat (.int x) && (intL xs).all flat) = true := by rw [hU]; rfl
 simp only [isin, h1, if_true]
 congr 1
 simp only [inD, intL, List.any_map]
 clear h1
 induction xs with
 | nil => rfl
 | cons y r ih =>
  simp only [List.any_cons, Function.comp_apply, eqD]
  rw [show (r.any ((fun y => eqD y (D.int x)) ∘ D.int)) = decide (x ∈ r) from ih]
  by_cases e : y = x
  ·subst e; simp
  ·simp [e, Ne.symm e]
theorem hV (x : Int) : ∀ (xs : List Int), x ∈ xs → idxD (.int x) (intL xs) = some (xs.idxOf x)
 | [], h => by simp at h
 | y :: r, h => by
  show idxD (.int x) (.int y :: intL r) = _
  rw [idxD]
  by_cases e : y = x
  ·subst e
   rw [if_pos (by simp [eqD])]
   simp
  ·rw [if_neg (by simpa [eqD] using e)]
   have h' : x ∈ r := (List.mem_cons.mp h).resolve_left (Ne.symm e)
   rw [hV x r h', List.idxOf_cons, show (y == x) = false by simpa using e]
   rfl
theorem lA (x : Int) (xs : List Int) (h : x ∈ xs) : op2 .index (.lst (intL xs)) (.int x) = .ok (.int (xs.idxOf x : Nat)) := by
 have h1 : (flat (.int x) && (intL xs).all flat) = true := by rw [hU]; rfl
 show (if (flat (.int x) && (intL xs).all flat) = true then _ else _) = _
 rw [if_pos h1, hV x xs h]
 rfl
theorem gD (x : Int) (xs : List Int) : op2 .notIn (.int x) (.lst (intL xs)) = .ok (.bl (!decide (x ∈ xs))) := by
 show (isin (.int x) (.lst (intL xs))).bind _ = _
 rw [nR]; rfl
noncomputable def dd (acc : List Int) : List Int → List Int
 | [] => acc
 | x :: r => dd (if x ∈ acc then acc else acc ++ [x]) r
theorem gE (acc xs ys : List Int) : dd acc (xs ++ ys) = dd (dd acc xs) ys := by
 induction xs generalizing acc with
 | nil => rfl
 | cons x r ih => exact ih _
theorem iW (acc xs : List Int) : (dd acc xs).length ≤ acc.length + xs.length := by
 induction xs generalizing acc with
 | nil => simp [dd]
 | cons x r ih =>
  rw [dd]
  refine Nat.le_trans (ih _) ?_
  by_cases h : x ∈ acc <;> simp [h] <;> omega
theorem gF (acc xs : List Int) : ∀ x, x ∈ dd acc xs ↔ x ∈ acc ∨ x ∈ xs := by
 induction xs generalizing acc with
 | nil => simp [dd]
 | cons y r ih =>
  intro x
  rw [dd, ih]
  by_cases hy : y ∈ acc
  ·rw [if_pos hy]
   simp only [List.mem_cons]
   constructor
   ·rintro (h | h)
    ·exact .inl h
    ·exact .inr (.inr h)
   ·rintro (h | rfl | h)
    ·exact .inl h
    ·exact .inl hy
    ·exact .inr h
  ·rw [if_neg hy]
   simp only [List.mem_append, List.mem_cons, List.not_mem_nil, or_false]
   constructor
   ·rintro ((h | h) | h)
    ·exact .inl h
    ·exact .inr (.inl h)
    ·exact .inr (.inr h)
   ·rintro (h | h | h)
    ·exact .inl (.inl h)
    ·exact .inl (.inr h)
    ·exact .inr h
theorem jY (acc xs : List Int) (h : acc.Nodup) : (dd acc xs).Nodup := by
 induction xs generalizing acc with
 | nil => exact h
 | cons y r ih =>
  refine ih _ ?_
  by_cases hy : y ∈ acc
  ·rw [if_pos hy]; exact h
  ·rw [if_neg hy]
   rw [List.nodup_append]
   refine ⟨h, by simp, fun a ha b hb => ?_⟩
   have : b = y := by simpa using hb
   subst this
   rintro rfl
   exact hy ha
noncomputable def numV (R : List (List Int)) : List (List Int) := R.map fun r => r.map fun x => ((dd [] R.flatten).idxOf x : Nat)
noncomputable def Bnumbered : List Sm := [(.asg 1 (.lst [])), (.loop .seq [(.var 0)] [2] [(.loop .seq [(.var 2)] [3] [(.ite (.leaf (.op2 .notIn (.var 3) (.var 1))) [(.app 1 (.var 3))] [])])]), (.asg 4 (.lst [])), (.loop .seq [(.var 0)] [2] [(.app 4 (.op1 .tuple (.comp .seq [(.var 2)] [1] 1 none (.op2 .index (.var 1) (.var 0)))))]), (.ret (.op1 .tuple (.var 4)))]
section
variable {Φ : Nat → List D → R D} {G : List D} {n : Nat}
theorem num_in {rc : List Int → D} (hrc : ∀ r : List Int, r.length ≤ 1000 → itemsD .seq [rc r] = .ok (intL r)) {d0 : D} {c2 c3 c4 : Slot} {acc r : List Int} (hl : acc.length + r.length < 90000) (hr : r.length ≤ 1000) :
  ∃ c3', xec Φ G n (.loop .seq [(.var 2)] [3] [(.ite (.leaf (.op2 .notIn (.var 3) (.var 1))) [(.app 1 (.var 3))] [])]) [some (false, d0), some (true, .lst (intL acc)), some (false, rc r), c3, c4] = .nx [some (false, d0), some (true, .lst (intL (dd acc r))), some (false, rc r), c3', c4] := by
 have hi : itemsD .seq [rc r] = .ok (intL r) := hrc r hr
 have step : ∀ i (h : i < (intL r).length) δ, (∃ c, δ = [some (false, d0), some (true, .lst (intL (dd acc (r.take i)))), some (false, rc r), c, c4]) → ∃ δ', loopF Φ G n [3] [(.ite (.leaf (.op2 .notIn (.var 3) (.var 1))) [(.app 1 (.var 3))] [])] (intL r)[i] δ = .nx δ' ∧ ∃ c, δ' = [some (false, d0), some (true, .lst (intL (dd acc (r.take (i + 1))))), some (false, rc r), c, c4] := by
  rintro i h δ ⟨c, rfl⟩
  have hi' : i < r.length := by simpa [intL] using h
  have ex : (intL r)[i] = .int r[i] := by simp [intL]
  have et : r.take (i + 1) = r.take i ++ [r[i]] := List.take_succ_eq_append_getElem hi'
  have hd : dd acc (r.take (i + 1)) = if r[i] ∈ dd acc (r.take i) then dd acc (r.take i) else dd acc (r.take i) ++ [r[i]] := by
   rw [et, gE]; rfl
  rw [ex, hd]
  have hlen : (intL (dd acc (r.take i))).length < LIM := by
   have := iW acc (r.take i)
   have h2 : (r.take i).length ≤ r.length := by rw [List.length_take]; omega
   have : LIM = 100000 := rfl
   simp only [intL, List.length_map]
   omega
  by_cases hm : r[i] ∈ dd acc (r.take i)
  ·rw [if_pos hm]
   refine ⟨_, ?_, some (false, .int r[i]), rfl⟩
   simp only [loopF, xecs, xec, evT, ev, frz, frz1, leaksT, leaks, rdR, rdV, Za, Zc, Py.sets, spread, Zf, Zi, Zj, Zk, Zl, Zq, if_true, if_false, Bool.false_eq_true, Zv, gD, hm, decide_true, List.length_cons, List.length_nil, Nat.zero_add]
  ·rw [if_neg hm]
   refine ⟨_, ?_, some (false, .int r[i]), rfl⟩
   simp only [loopF, xecs, xec, evT, ev, frz, frz1, leaksT, leaks, rdR, rdV, Za, Zc, Py.sets, spread, Zf, Zi, Zj, Zk, Zl, Zq, if_true, if_false, Bool.false_eq_true, Zw, gD, hm, decide_false, List.length_cons, List.length_nil, Nat.zero_add, ownL, appD, hlen]
   simp [intL]
 obtain ⟨δ', e, c3', rfl⟩ := cQ (Φ := Φ) (G := G) (n := n) (k := .seq) (its := [(.var 2)]) (tg := [3]) (body := [(.ite (.leaf (.op2 .notIn (.var 3) (.var 1))) [(.app 1 (.var 3))] [])]) (δ := [some (false, d0), some (true, .lst (intL acc)), some (false, rc r), c3, c4]) (xs := intL r) (by simp only [ev, evs, frz, frz1, leaks, leakss, rdR, rdV, Zf, Zk, Zl, Zq, if_false, Bool.false_eq_true, hi])
  (fun i δ => ∃ c, δ = [some (false, d0), some (true, .lst (intL (dd acc (r.take i)))), some (false, rc r), c, c4]) ⟨c3, rfl⟩ step
 refine ⟨c3', ?_⟩
 have hlr : (intL r).length = r.length := by simp [intL]
 rw [hlr, List.take_length] at e
 exact e
theorem num_row {rc : List Int → D} (hrc : ∀ r : List Int, r.length ≤ 1000 → itemsD .seq [rc r] = .ok (intL r)) {m : Bool} {names r : List Int} {δ : Sto} {c : Slot} (hr : r.length ≤ 1000) (hs : ∀ x ∈ r, x ∈ names) (h2 : rdR δ 2 = .ok (rc r)) (h1 : δ[1]? = some (some (true, .lst (intL names)))) :
  ev Φ G m (.comp .seq [(.var 2)] [1] 1 none (.op2 .index (.var 1) (.var 0))) δ = .ok (.lst (intL (r.map fun x => (names.idxOf x : Nat)))) := by
 have hi : itemsD .seq [rc r] = .ok (intL r) := hrc r hr
 simp only [ev, evs, if_true, h2, fZ, hi, capOf, List.map_cons, List.map_nil, h1, Option.getD_some]
 rw [cG (fun x => match x with | .int k => .int (names.idxOf k : Nat) | _ => .non) _ fun x hx => ?_]
 ·simp only [R.quiet_ok, fZ]
  congr 2
  simp [intL, Function.comp_def]
 ·obtain ⟨k, hk, rfl⟩ := List.mem_map.mp hx
  simp only [evO, rdR, spread, Zf, Zk, Zl, Zm, Zn, Zo, Zp, if_true, lA k names (hs k hk)]
theorem iX {rc : List Int → D} (hrc : ∀ r : List Int, r.length ≤ 1000 → itemsD .seq [rc r] = .ok (intL r)) {d0 : D} {R : List (List Int)} (h0 : itemsD .seq [d0] = .ok (R.map rc)) (hR : ∀ r ∈ R, r.length ≤ 1000) (hl : R.flatten.length ≤ 80000) (hL : R.length ≤ 1000) :
  xecs Φ G n Bnumbered [some (false, d0), none, none, none, none] = .rt (.tup ((numV R).map rowD)) := by
 unfold Bnumbered
 have e1 : xec Φ G n (.asg 1 (.lst [])) [some (false, d0), none, none, none, none] = .nx [some (false, d0), some (true, .lst (intL [])), none, none, none] := by simp only [xec, ev, evs, frz, leaks, leakss, Zc, isOwn, frsh, Zf, Zi, Zj, Zt]; rfl
 rw [aG e1]
 have step2 : ∀ i (h : i < (R.map rc).length) δ, (∃ c2 c3, δ = [some (false, d0), some (true, .lst (intL (dd [] (R.take i).flatten))), c2, c3, none]) → ∃ δ', loopF Φ G n [2] [(.loop .seq [(.var 2)] [3] [(.ite (.leaf (.op2 .notIn (.var 3) (.var 1))) [(.app 1 (.var 3))] [])])] (R.map rc)[i] δ = .nx δ' ∧ ∃ c2 c3, δ' = [some (false, d0), some (true, .lst (intL (dd [] (R.take (i + 1)).flatten))), c2, c3, none] := by
  rintro i h δ ⟨c2, c3, rfl⟩
  have hi : i < R.length := by simpa using h
  have et : R.take (i + 1) = R.take i ++ [R[i]] := List.take_succ_eq_append_getElem hi
  have hr := hR R[i] (List.getElem_mem hi)
  have hfl : (R.take i).flatten.length ≤ R.flatten.length := by
   conv => rhs; rw [← List.take_append_drop i R]
   rw [List.flatten_append, List.length_append]; omega
  have hdl := iW [] (R.take i).flatten
  obtain ⟨c3', e⟩ := num_in hrc (Φ := Φ) (G := G) (n := n) (d0 := d0) (c2 := none) (c3 := c3) (c4 := none) (acc := dd [] (R.take i).flatten) (r := R[i]) (by rw [List.length_nil] at hdl; omega) hr
  refine ⟨_, ?_, some (false, rc R[i]), c3', rfl⟩
  have ed : dd [] (R.take (i + 1)).flatten = dd (dd [] (R.take i).flatten) R[i] := by rw [et, List.flatten_append, gE]; simp
  rw [ed, List.getElem_map]
  simp only [loopF, spread, List.length_cons, List.length_nil, Nat.zero_add, Py.sets, List.set_cons_zero, List.set_cons_succ]
  rw [aG e]
  rfl
 obtain ⟨δ2, e2, c2, c3, rfl⟩ := cQ (Φ := Φ) (G := G) (n := n) (k := .seq) (its := [(.var 0)]) (tg := [2]) (body := [(.loop .seq [(.var 2)] [3] [(.ite (.leaf (.op2 .notIn (.var 3) (.var 1))) [(.app 1 (.var 3))] [])])]) (δ := [some (false, d0), some (true, .lst (intL [])), none, none, none]) (xs := R.map rc) (by simp only [ev, evs, frz, frz1, leaks, leakss, rdR, rdV, Zf, Zk, Zq, if_false, Bool.false_eq_true]; exact h0)
  (fun i δ => ∃ c2 c3, δ = [some (false, d0), some (true, .lst (intL (dd [] (R.take i).flatten))), c2, c3, none]) ⟨none, none, rfl⟩ step2
 rw [aG e2]
 rw [List.length_map, List.take_length]
 generalize hnm : dd [] R.flatten = names
 have e3 : xec Φ G n (.asg 4 (.lst [])) [some (false, d0), some (true, .lst (intL names)), c2, c3, none] = .nx [some (false, d0), some (true, .lst (intL names)), c2, c3, some (true, .lst [])] := by simp only [xec, ev, evs, frz, leaks, leakss, Zc, isOwn, frsh, Zf, Zi, Zj, Zt]
 rw [aG e3]
 have step5 : ∀ i (h : i < (R.map rc).length) δ, (∃ c2 c3, δ = [some (false, d0), some (true, .lst (intL names)), c2, c3, some (true, .lst (((R.take i).map fun r => r.map fun x => ((names.idxOf x : Nat) : Int)).map rowD))]) →
   ∃ δ', loopF Φ G n [2] [(.app 4 (.op1 .tuple (.comp .seq [(.var 2)] [1] 1 none (.op2 .index (.var 1) (.var 0)))))] (R.map rc)[i] δ = .nx δ' ∧ ∃ c2 c3, δ' = [some (false, d0), some (true, .lst (intL names)), c2, c3, some (true, .lst (((R.take (i + 1)).map fun r => r.map fun x => ((names.idxOf x : Nat) : Int)).map rowD))] := by
  rintro i h δ ⟨c2, c3, rfl⟩
  have hi : i < R.length := by simpa using h
  have et : R.take (i + 1) = R.take i ++ [R[i]] := List.take_succ_eq_append_getElem hi
  have hr := hR R[i] (List.getElem_mem hi)
  have hs : ∀ x ∈ R[i], x ∈ names := fun x hx => by
   rw [← hnm, gF]
   exact .inr (List.mem_flatten.mpr ⟨R[i], List.getElem_mem hi, hx⟩)
  have hlen : (((R.take i).map fun r => r.map fun x => ((names.idxOf x : Nat) : Int)).map rowD).length < LIM := by
   simp only [List.length_map, List.length_take]
   have : LIM = 100000 := rfl
   omega
  refine ⟨_, ?_, some (false, rc R[i]), c3, rfl⟩
  rw [List.getElem_map]
  have ec := num_row hrc (m := true) (Φ := Φ) (G := G) (names := names) (r := R[i]) (δ := [some (false, d0), some (true, .lst (intL names)), some (false, rc R[i]), c3, some (true, .lst (((R.take i).map fun r => r.map fun x => ((names.idxOf x : Nat) : Int)).map rowD))]) (c := none) hr hs rfl rfl
  simp only [loopF, spread, List.length_cons, List.length_nil, Nat.zero_add, Py.sets, List.set_cons_zero, List.set_cons_succ]
  have ec2 : ev Φ G false (.op1 .tuple (.comp .seq [(.var 2)] [1] 1 none (.op2 .index (.var 1) (.var 0)))) [some (false, d0), some (true, .lst (intL names)), some (false, rc R[i]), c3, some (true, .lst (((R.take i).map fun r => r.map fun x => ((names.idxOf x : Nat) : Int)).map rowD))] = .ok (rowD (R[i].map fun x => ((names.idxOf x : Nat) : Int))) := by
   rw [ev, ec]; rfl
  rw [aG (mG rfl ec2 rfl hlen)]
  simp only [xecs, List.set_cons_zero, List.set_cons_succ, et, List.map_append, List.map_cons, List.map_nil]
 obtain ⟨δ4, e4, c2', c3', rfl⟩ := cQ (Φ := Φ) (G := G) (n := n) (k := .seq) (its := [(.var 0)]) (tg := [2]) (body := [(.app 4 (.op1 .tuple (.comp .seq [(.var 2)] [1] 1 none (.op2 .index (.var 1) (.var 0)))))]) (δ := [some (false, d0), some (true, .lst (intL names)), c2, c3, some (true, .lst [])]) (xs := R.map rc) (by simp only [ev, evs, frz, frz1, leaks, leakss, rdR, rdV, Zf, Zk, Zq, if_false, Bool.false_eq_true]; exact h0)
  (fun i δ => ∃ c2 c3, δ = [some (false, d0), some (true, .lst (intL names)), c2, c3, some (true, .lst (((R.take i).map fun r => r.map fun x => ((names.idxOf x : Nat) : Int)).map rowD))]) ⟨c2, c3, rfl⟩ step5
 rw [aG e4]
 simp only [xecs, xec, ev, frz, leaks, rdR, rdV, Zc, Zf, Zk, Zl, if_true, ZP, List.length_map, List.take_length, numV, hnm]
theorem iY {d0 : D} {R : List (List Int)} (h0 : itemsD .seq [d0] = .ok (R.map rowD)) (hR : ∀ r ∈ R, r.length ≤ 1000) (hl : R.flatten.length ≤ 80000) (hL : R.length ≤ 1000) :
  xecs Φ G n Bnumbered [some (false, d0), none, none, none, none] = .rt (.tup ((numV R).map rowD)) := iX (fun r hr => bW (by simpa [intL] using hr)) h0 hR hl hL
end
end Py
namespace Py
theorem jZ (m : Nat) (o : List Int) (h : o.length = 4 * m) : (chunks m o).flatten = o := by
 have gen : ∀ j, j ≤ m → ((List.range j).map fun k => (o.drop (4 * k)).take 4).flatten = o.take (4 * j) := by
  intro j
  induction j with
  | zero => simp
  | succ j ih =>
   intro hj
   rw [List.range_succ, List.map_append, List.flatten_append, ih (by omega)]
   simp only [List.map_cons, List.map_nil, List.flatten_cons, List.flatten_nil, List.append_nil]
   have e : o.take (4 * (j + 1)) = o.take (4 * j) ++ (o.drop (4 * j)).take 4 := by
    rw [show 4 * (j + 1) = 4 * j + 4 by omega, List.take_add]
   rw [e]
 rw [chunks, gen m (Nat.le_refl m), ← h, List.take_length]
theorem gG (m : Nat) (o : List Int) (h : o.length = 4 * m) : (chunks m o).length = m ∧ ∀ r ∈ chunks m o, r.length = 4 := by
 refine ⟨by simp [chunks], fun r hr => ?_⟩
 obtain ⟨k, hk, rfl⟩ := List.mem_map.mp hr
 have hk' := List.mem_range.mp hk
 rw [List.length_take, List.length_drop]
 omega
theorem dd_perm {W : List Int} {N : Nat} (t : Two W N) : (dd [] W).Perm ((List.range N).map fun k => ((k : Nat) : Int)) := by
 have n1 : (dd [] W).Nodup := jY [] W List.nodup_nil
 have n2 : ((List.range N).map fun k => ((k : Nat) : Int)).Nodup := by
  rw [List.nodup_iff_pairwise_ne, List.pairwise_map]
  exact List.Pairwise.imp (fun h e => h (by omega)) (List.nodup_iff_pairwise_ne.mp List.nodup_range)
 rw [List.perm_ext_iff_of_nodup n1 n2]
 intro x
 rw [gF, List.mem_map]
 constructor
 ·rintro (h | h)
  ·simp at h
  ·obtain ⟨h1, h2⟩ := t.rng x h
   exact ⟨x.toNat, List.mem_range.mpr (by omega), by omega⟩
 ·rintro ⟨k, hk, rfl⟩
  refine .inr ?_
  have := t.cnt k (List.mem_range.mp hk)
  exact List.count_pos_iff.mp (by omega)
theorem lB {W : List Int} {N : Nat} (t : Two W N) : (dd [] W).length = N := by rw [(dd_perm t).length_eq]; simp
theorem nS (R : List (List Int)) : (numV R).flatten = R.flatten.map fun x => (((dd [] R.flatten).idxOf x : Nat) : Int) := by
 rw [numV, List.map_flatten]
theorem hZ : ∀ {l : List Int} {v : Nat} (nd : l.Nodup) (h : v < l.length), l.idxOf l[v] = v
 | a :: r, 0, _, _ => by simp
 | a :: r, v + 1, nd, h => by
  have hv : v < r.length := by simpa using h
  have hne : a ≠ r[v] := fun e => (List.nodup_cons.mp nd).1 (by rw [e]; exact List.getElem_mem hv)
  rw [List.getElem_cons_succ, List.idxOf_cons, show (a == r[v]) = false by simpa using hne]
  simp only [cond_false]
  rw [hZ (List.nodup_cons.mp nd).2 hv]
theorem num_two {R : List (List Int)} {N : Nat} (t : Two R.flatten N) : Two (numV R).flatten N := by
 have hl := lB t
 have nd : (dd [] R.flatten).Nodup := jY [] _ List.nodup_nil
 have mem : ∀ x ∈ R.flatten, x ∈ dd [] R.flatten := fun x hx => (gF _ _ x).mpr (.inr hx)
 rw [nS]
 refine ⟨fun x hx => ?_, fun v hv => ?_⟩
 ·obtain ⟨y, hy, rfl⟩ := List.mem_map.mp hx
  have := List.idxOf_lt_length_iff.mpr (mem y hy)
  rw [hl] at this
  omega
 ·have hv' : v < (dd [] R.flatten).length := by rw [hl]; exact hv
  rw [List.count, List.countP_map]
  have e : R.flatten.countP ((fun x => x == (v : Int)) ∘ fun x => (((dd [] R.flatten).idxOf x : Nat) : Int)) = R.flatten.countP (fun x => x == (dd [] R.flatten)[v]) := by
   refine List.countP_congr fun x hx => ?_
   simp only [Function.comp_apply, beq_iff_eq]
   constructor
   ·intro e
    have e' : (dd [] R.flatten).idxOf x = v := by omega
    have := List.getElem_idxOf (List.idxOf_lt_length_iff.mpr (mem x hx))
    simp only [e'] at this
    exact this.symm
   ·intro e
    rw [e, hZ nd]
  rw [e]
  have hx : (dd [] R.flatten)[v] ∈ R.flatten := by
   have := (gF [] R.flatten _).mp (List.getElem_mem hv')
   rcases this with h | h
   ·simp at h
   ·exact h
  obtain ⟨h1, h2⟩ := t.rng _ hx
  have := t.cnt ((dd [] R.flatten)[v]).toNat (by omega)
  rw [show ((((dd [] R.flatten)[v]).toNat : Nat) : Int) = (dd [] R.flatten)[v] by omega] at this
  exact this
theorem j0 (R : List (List Int)) : (numV R).length = R.length := by simp [numV]
theorem h8 {R : List (List Int)} {k : Nat} (h : ∀ r ∈ R, r.length = k) : ∀ r ∈ numV R, r.length = k := by
 intro r hr
 obtain ⟨q, hq, rfl⟩ := List.mem_map.mp hr
 simpa using h q hq
structure Sheet (Q : List (List Int)) (m : Nat) : Prop where
 len : Q.length = m
 four : ∀ r ∈ Q, r.length = 4
 two : Two Q.flatten (2 * m)
noncomputable def placesR (r : List Int) (k : Nat) (line : Int) (j : Nat) : List (Nat × Nat) := ((List.range j).filter fun e => r.getD e 0 == line).map fun e => (k, e)
noncomputable def placesN (Q : List (List Int)) (line : Int) (i : Nat) : List (Nat × Nat) := (List.range i).flatMap fun k => placesR (Q.getD k []) k line 4
noncomputable def placesV (Q : List (List Int)) (line : Int) : List (Nat × Nat) := placesN Q line Q.length
theorem j1 (r : List Int) (k : Nat) (line : Int) (h : r.length = 4) : (placesR r k line 4).length = r.count line := by
 rw [placesR, List.length_map, ← List.countP_eq_length_filter, List.count]
 conv => rhs; rw [show r = (List.range 4).map fun e => r.getD e 0 from List.ext_getElem (by simp [h]) fun i h1 h2 => by simp [h1]]
 rw [List.countP_map]
 rfl
theorem eQ {Q : List (List Int)} (line : Int) (h : ∀ r ∈ Q, r.length = 4) : (placesV Q line).length = Q.flatten.count line := by
 have gen : ∀ i, i ≤ Q.length → (placesN Q line i).length = (Q.take i).flatten.count line := by
  intro i
  induction i with
  | zero => simp [placesN]
  | succ i ih =>
   intro hi
   have hi' : i < Q.length := by omega
   have e1 : placesN Q line (i + 1) = placesN Q line i ++ placesR (Q.getD i []) i line 4 := by
    simp [placesN, List.range_succ, List.flatMap_append]
   have e2 : Q.take (i + 1) = Q.take i ++ [Q[i]] := List.take_succ_eq_append_getElem hi'
   rw [e1, e2, List.length_append, ih (by omega), List.flatten_append, List.count_append]
   have : Q.getD i [] = Q[i] := by simp [hi']
   rw [this, j1 _ _ _ (h _ (List.getElem_mem hi'))]
   simp
 rw [placesV, gen Q.length (Nat.le_refl _), List.take_length]
theorem Sheet.places {Q : List (List Int)} {m : Nat} (s : Sheet Q m) {v : Nat} (h : v < 2 * m) : (placesV Q (v : Int)).length = 2 := by
 rw [eQ _ s.four]; exact s.two.cnt v h
theorem Sheet.none {Q : List (List Int)} {m : Nat} (s : Sheet Q m) {x : Int} (h : x < 0 ∨ (2 * m : Nat) ≤ x) : placesV Q x = [] := by
 refine List.eq_nil_of_length_eq_zero ?_
 rw [eQ _ s.four, List.count_eq_zero]
 intro hm
 have := s.two.rng x hm
 omega
end Py
namespace Py
section
variable {Φ : Nat → List D → R D} {G : List D} {n : Nat}
theorem j2 {r : List Int} {e : Nat} (h : e < r.length) : atD (intL r) (e : Nat) = some (.int (r.getD e 0)) := by
 rw [cL (by simpa [intL] using h)]
 simp [intL, h]
theorem bY {Q : List (List Int)} {k : Nat} (h : k < Q.length) : atD (Q.map rowD) (k : Nat) = some (rowD (Q.getD k [])) := by
 rw [cL (by simpa using h)]
 simp [h]
end
end Py
namespace Py
section
variable {Φ : Nat → List D → R D} {G : List D} {n : Nat}
noncomputable def Bwhole : List Sm := [(.ret (.and (.op1 .isInt (.var 0)) (.not (.op1 .isBool (.var 0)))))]
theorem nU (x : Int) : xecs Φ G n Bwhole [some (false, .int x)] = .rt (.bl true) := by
 simp only [Bwhole, xecs, xec, ev, frz, leaks, rdR, rdV, Zc, asB, Zf, Zk, Zq, if_true, Zw, ZT, ZU]
noncomputable def Brefused : List Sm := [(.ret (.op2 .eq (.var 0) (.lst [(.op2 .eq (.var 1) (.cst (.int 0))), (.op2 .eq (.var 1) (.cst (.int 1))), (.op2 .eq (.var 1) (.cst (.int 2))), (.op2 .eq (.var 1) (.cst (.int 3))), (.op2 .eq (.var 1) (.cst (.int 4))), (.cst (.bl true))])))]
noncomputable def marksD (w : Int) : D := .lst [.bl (w == 0), .bl (w == 1), .bl (w == 2), .bl (w == 3), .bl (w == 4), .bl true]
theorem p7 (a b c d e f a' b' c' d' e' f' : Bool) : op2 .eq (.lst [.bl a, .bl b, .bl c, .bl d, .bl e, .bl f]) (.lst [.bl a', .bl b', .bl c', .bl d', .bl e', .bl f']) = .ok (.bl (a == a' && (b == b' && (c == c' && (d == d' && (e == e' && (f == f' && true))))))) := rfl
theorem j3 (w : Int) : xecs Φ G n Brefused [some (false, marksD w), some (false, .int w)] = .rt (.bl true) := by
 simp only [Brefused, xecs, xec, ev, evs, frz, leaks, leakss, rdR, rdV, Zc, Zf, Zk, Zl, Zq, if_true, Zr, ZG, marksD, p7, beq_self_eq_true]
end
end Py
namespace Py
noncomputable def numD (ks : List Int) : D := .dic ks (natL (List.range ks.length))
theorem h9 : ∀ (ks : List Int) (vs : List D) (x : Int), x ∈ ks → vs.length = ks.length → lookD ks vs x = vs[ks.idxOf x]?
 | [], _, x, h, _ => by simp at h
 | k :: ks, [], x, _, hl => by simp at hl
 | k :: ks, v :: vs, x, h, hl => by
  rw [lookD]
  by_cases e : k = x
  ·subst e; simp
  ·rw [if_neg e]
   have h' : x ∈ ks := (List.mem_cons.mp h).resolve_left (Ne.symm e)
   rw [h9 ks vs x h' (by simpa using hl), List.idxOf_cons, show (k == x) = false by simpa using e]
   simp
theorem p8 {ks : List Int} {x : Int} (h : x ∈ ks) : lookD ks (natL (List.range ks.length)) x = some (.int (ks.idxOf x : Nat)) := by
 rw [h9 ks _ x h (by simp [natL])]
 have := List.idxOf_lt_length_iff.mpr h
 simp [natL, this]
theorem dd_pre (acc xs : List Int) : ∃ more, dd acc xs = acc ++ more := by
 induction xs generalizing acc with
 | nil => exact ⟨[], by simp [dd]⟩
 | cons x r ih =>
  rw [dd]
  obtain ⟨m, e⟩ := ih (if x ∈ acc then acc else acc ++ [x])
  by_cases h : x ∈ acc
  ·rw [if_pos h] at e ⊢; exact ⟨m, e⟩
  ·rw [if_neg h] at e ⊢; exact ⟨x :: m, by rw [e]; simp⟩
theorem mH : ∀ {a b : List Int} {x : Int}, x ∈ a → (a ++ b).idxOf x = a.idxOf x
 | [], _, _, h => by simp at h
 | y :: a, b, x, h => by
  rw [List.cons_append, List.idxOf_cons, List.idxOf_cons]
  by_cases e : y = x
  ·subst e; simp
  ·rw [show (y == x) = false by simpa using e]
   simp only [cond_false]
   rw [mH ((List.mem_cons.mp h).resolve_left (Ne.symm e))]
theorem p9 {acc xs : List Int} {x : Int} (h : x ∈ acc) : (dd acc xs).idxOf x = acc.idxOf x := by
 obtain ⟨m, e⟩ := dd_pre acc xs
 rw [e, mH h]
noncomputable def Bnum : List Sm := [(.new 2), (.asg 3 (.lst [])), (.loop .seq [(.var 0)] [4] [(.loop .seq [(.var 4)] [5] [(.ite (.leaf (.din true (.var 5) (.var 2))) [(.dput 2 (.var 5) (.dlen (.var 2)))] [])]), (.app 3 (.op1 .tuple (.comp .seq [(.var 4)] [2] 1 none (.dget (.var 1) (.var 0)))))]), (.ret (.tup [(.op1 .tuple (.var 3)), (.var 1)]))]
section
variable {Φ : Nat → List D → R D} {G : List D} {n : Nat}
theorem nV (k : Nat) : natL (List.range k) ++ [.int (k : Nat)] = natL (List.range (k + 1)) := by simp [natL, List.range_succ]
theorem nm_in {d0 d1 : D} {c3 c5 : Slot} {acc r : List Int} (hl : acc.length + r.length < 90000) (hr : r.length ≤ 1000) :
  ∃ c5', xec Φ G n (.loop .seq [(.var 4)] [5] [(.ite (.leaf (.din true (.var 5) (.var 2))) [(.dput 2 (.var 5) (.dlen (.var 2)))] [])]) [some (false, d0), some (false, d1), some (true, numD acc), c3, some (false, rowD r), c5] = .nx [some (false, d0), some (false, d1), some (true, numD (dd acc r)), c3, some (false, rowD r), c5'] := by
 have hi : itemsD .seq [rowD r] = .ok (intL r) := bW (by simpa [intL] using hr)
 have step : ∀ i (h : i < (intL r).length) δ, (∃ c, δ = [some (false, d0), some (false, d1), some (true, numD (dd acc (r.take i))), c3, some (false, rowD r), c]) → ∃ δ', loopF Φ G n [5] [(.ite (.leaf (.din true (.var 5) (.var 2))) [(.dput 2 (.var 5) (.dlen (.var 2)))] [])] (intL r)[i] δ = .nx δ' ∧ ∃ c, δ' = [some (false, d0), some (false, d1), some (true, numD (dd acc (r.take (i + 1)))), c3, some (false, rowD r), c] := by
  rintro i h δ ⟨c, rfl⟩
  have hi' : i < r.length := by simpa [intL] using h
  have ex : (intL r)[i] = .int r[i] := by simp [intL]
  have et : r.take (i + 1) = r.take i ++ [r[i]] := List.take_succ_eq_append_getElem hi'
  have hd : dd acc (r.take (i + 1)) = if r[i] ∈ dd acc (r.take i) then dd acc (r.take i) else dd acc (r.take i) ++ [r[i]] := by
   rw [et, gE]; rfl
  rw [ex, hd]
  have hlen : (dd acc (r.take i)).length < LIM := by
   have := iW acc (r.take i)
   have h2 : (r.take i).length ≤ r.length := by rw [List.length_take]; omega
   have : LIM = 100000 := rfl
   omega
  generalize dd acc (r.take i) = ks at *
  by_cases hm : r[i] ∈ ks
  ·rw [if_pos hm]
   refine ⟨_, ?_, some (false, .int r[i]), rfl⟩
   simp only [loopF, numD, xecs, xec, evT, ev, frz, leaksT, leaks, rdR, rdV, Za, Zc, Py.sets, spread, Zf, Zi, Zj, Zk, Zl, Zq, if_true, if_false, Bool.false_eq_true, Zv, hm, decide_true, List.length_cons, List.length_nil, Nat.zero_add]
  ·rw [if_neg hm]
   refine ⟨_, ?_, some (false, .int r[i]), rfl⟩
   simp only [loopF, numD, xecs, xec, evT, ev, frz, leaksT, leaks, rdR, rdV, Za, Zc, Py.sets, spread, Zf, Zi, Zj, Zk, Zl, Zq, if_true, if_false, Zw, hm, decide_false, List.length_cons, List.length_nil, Nat.zero_add, ownM, dputD, hlen, nV, List.length_append]
 obtain ⟨δ', e, c, rfl⟩ := cQ (Φ := Φ) (G := G) (n := n) (k := .seq) (its := [(.var 4)]) (tg := [5]) (body := [(.ite (.leaf (.din true (.var 5) (.var 2))) [(.dput 2 (.var 5) (.dlen (.var 2)))] [])]) (δ := [some (false, d0), some (false, d1), some (true, numD acc), c3, some (false, rowD r), c5]) (xs := intL r) (by simp only [ev, evs, frz, frz1, leaks, leakss, rdR, rdV, Zf, Zk, Zl, Zq, if_false, Bool.false_eq_true, hi])
  (fun i δ => ∃ c, δ = [some (false, d0), some (false, d1), some (true, numD (dd acc (r.take i))), c3, some (false, rowD r), c]) ⟨c5, rfl⟩ step
 refine ⟨c, ?_⟩
 have hlr : (intL r).length = r.length := by simp [intL]
 rw [hlr, List.take_length] at e
 exact e
theorem nm_row {m : Bool} {names r : List Int} {δ : Sto} (hr : r.length ≤ 1000) (hs : ∀ x ∈ r, x ∈ names) (h2 : rdR δ 4 = .ok (rowD r)) (h1 : δ[2]? = some (some (true, numD names))) :
  ev Φ G m (.comp .seq [(.var 4)] [2] 1 none (.dget (.var 1) (.var 0))) δ = .ok (.lst (intL (r.map fun x => (names.idxOf x : Nat)))) := by
 have hi : itemsD .seq [rowD r] = .ok (intL r) := bW (by simpa [intL] using hr)
 simp only [ev, evs, if_true, h2, fZ, hi, capOf, List.map_cons, List.map_nil, h1, Option.getD_some]
 rw [cG (fun x => match x with | .int k => .int (names.idxOf k : Nat) | _ => .non) _ fun x hx => ?_]
 ·simp only [R.quiet_ok, fZ]
  congr 2
  simp [intL, Function.comp_def]
 ·obtain ⟨k, hk, rfl⟩ := List.mem_map.mp hx
  simp only [evO, rdR, spread, Ze, Zf, Zk, Zl, Zm, Zn, Zo, Zp, if_true, numD, p8 (hs k hk)]
theorem qA {d0 : D} {rings : Int} {R : List (List Int)} (h0 : itemsD .seq [d0] = .ok (R.map rowD)) (hR : ∀ r ∈ R, r.length ≤ 1000) (hl : R.flatten.length ≤ 80000) (hL : R.length ≤ 1000) :
  xecs Φ G n Bnum [some (false, d0), some (false, .int rings), none, none, none, none] = .rt (.tup [.tup ((numV R).map rowD), .int rings]) := by
 unfold Bnum
 have e1 : xec Φ G n (.new 2) [some (false, d0), some (false, .int rings), none, none, none, none] = .nx [some (false, d0), some (false, .int rings), some (true, numD []), none, none, none] := by simp only [xec, Zi, Zj]; rfl
 have e2 : xec Φ G n (.asg 3 (.lst [])) [some (false, d0), some (false, .int rings), some (true, numD []), none, none, none] = .nx [some (false, d0), some (false, .int rings), some (true, numD []), some (true, .lst []), none, none] := by simp only [xec, ev, evs, frz, leaks, leakss, Zc, isOwn, frsh, Zf, Zi, Zj, Zt]
 rw [aG e1, aG e2]
 have step : ∀ i (h : i < (R.map rowD).length) δ, (∃ c4 c5, δ = [some (false, d0), some (false, .int rings), some (true, numD (dd [] (R.take i).flatten)), some (true, .lst (((R.take i).map fun r => r.map fun x => (((dd [] R.flatten).idxOf x : Nat) : Int)).map rowD)), c4, c5]) →
   ∃ δ', loopF Φ G n [4] [(.loop .seq [(.var 4)] [5] [(.ite (.leaf (.din true (.var 5) (.var 2))) [(.dput 2 (.var 5) (.dlen (.var 2)))] [])]), (.app 3 (.op1 .tuple (.comp .seq [(.var 4)] [2] 1 none (.dget (.var 1) (.var 0)))))] (R.map rowD)[i] δ = .nx δ' ∧ ∃ c4 c5, δ' = [some (false, d0), some (false, .int rings), some (true, numD (dd [] (R.take (i + 1)).flatten)), some (true, .lst (((R.take (i + 1)).map fun r => r.map fun x => (((dd [] R.flatten).idxOf x : Nat) : Int)).map rowD)), c4, c5] := by
  rintro i h δ ⟨c4, c5, rfl⟩
  have hi : i < R.length := by simpa using h
  have et : R.take (i + 1) = R.take i ++ [R[i]] := List.take_succ_eq_append_getElem hi
  have hr := hR R[i] (List.getElem_mem hi)
  have hfl : (R.take i).flatten.length ≤ R.flatten.length := by
   conv => rhs; rw [← List.take_append_drop i R]
   rw [List.flatten_append, List.length_append]; omega
  have hdl := iW [] (R.take i).flatten
  have ed : dd [] (R.take (i + 1)).flatten = dd (dd [] (R.take i).flatten) R[i] := by rw [et, List.flatten_append, gE]; simp
  have efull : dd [] R.flatten = dd (dd [] (R.take (i + 1)).flatten) (R.drop (i + 1)).flatten := by
   rw [← gE, ← List.flatten_append, List.take_append_drop]
  have hs : ∀ x ∈ R[i], x ∈ dd [] (R.take (i + 1)).flatten := fun x hx => by
   rw [ed, gF]; exact .inr hx
  have hrow : (R[i].map fun x => ((dd [] (R.take (i + 1)).flatten).idxOf x : Nat)) = (R[i].map fun x => ((dd [] R.flatten).idxOf x : Nat)) := by
   refine List.map_congr_left fun x hx => ?_
   rw [efull, p9 (hs x hx)]
  obtain ⟨c5', e⟩ := nm_in (Φ := Φ) (G := G) (n := n) (d0 := d0) (d1 := .int rings) (c3 := some (true, .lst (((R.take i).map fun r => r.map fun x => (((dd [] R.flatten).idxOf x : Nat) : Int)).map rowD))) (c5 := c5) (acc := dd [] (R.take i).flatten) (r := R[i]) (by rw [List.length_nil] at hdl; omega) hr
  have hlen : (((R.take i).map fun r => r.map fun x => (((dd [] R.flatten).idxOf x : Nat) : Int)).map rowD).length < LIM := by
   simp only [List.length_map, List.length_take]
   have : LIM = 100000 := rfl
   omega
  rw [← ed] at e
  have ec := nm_row (m := true) (Φ := Φ) (G := G) (names := dd [] (R.take (i + 1)).flatten) (r := R[i]) (δ := [some (false, d0), some (false, .int rings), some (true, numD (dd [] (R.take (i + 1)).flatten)), some (true, .lst (((R.take i).map fun r => r.map fun x => (((dd [] R.flatten).idxOf x : Nat) : Int)).map rowD)), some (false, rowD R[i]), c5']) hr hs rfl rfl
  have ec2 : ev Φ G false (.op1 .tuple (.comp .seq [(.var 4)] [2] 1 none (.dget (.var 1) (.var 0)))) [some (false, d0), some (false, .int rings), some (true, numD (dd [] (R.take (i + 1)).flatten)), some (true, .lst (((R.take i).map fun r => r.map fun x => (((dd [] R.flatten).idxOf x : Nat) : Int)).map rowD)), some (false, rowD R[i]), c5'] = .ok (rowD (R[i].map fun x => (((dd [] R.flatten).idxOf x : Nat) : Int))) := by
   rw [ev, ec]
   have : (R[i].map fun x => (((dd [] (R.take (i + 1)).flatten).idxOf x : Nat) : Int)) = (R[i].map fun x => (((dd [] R.flatten).idxOf x : Nat) : Int)) := by
    refine List.map_congr_left fun x hx => ?_
    rw [efull, p9 (hs x hx)]
   rw [this]; rfl
  refine ⟨_, ?_, some (false, rowD R[i]), c5', rfl⟩
  rw [List.getElem_map]
  simp only [loopF, spread, List.length_cons, List.length_nil, Nat.zero_add, Py.sets, List.set_cons_zero, List.set_cons_succ]
  rw [aG e, aG (mG rfl ec2 rfl hlen)]
  simp only [xecs, List.set_cons_zero, List.set_cons_succ, et, List.map_append, List.map_cons, List.map_nil]
 obtain ⟨δ', e3, c4, c5, rfl⟩ := cQ (Φ := Φ) (G := G) (n := n) (k := .seq) (its := [(.var 0)]) (tg := [4]) (body := [(.loop .seq [(.var 4)] [5] [(.ite (.leaf (.din true (.var 5) (.var 2))) [(.dput 2 (.var 5) (.dlen (.var 2)))] [])]), (.app 3 (.op1 .tuple (.comp .seq [(.var 4)] [2] 1 none (.dget (.var 1) (.var 0)))))]) (δ := [some (false, d0), some (false, .int rings), some (true, numD []), some (true, .lst []), none, none]) (xs := R.map rowD) (by simp only [ev, evs, frz, frz1, leaks, leakss, rdR, rdV, Zf, Zk, Zq, if_false, Bool.false_eq_true]; exact h0)
  (fun i δ => ∃ c4 c5, δ = [some (false, d0), some (false, .int rings), some (true, numD (dd [] (R.take i).flatten)), some (true, .lst (((R.take i).map fun r => r.map fun x => (((dd [] R.flatten).idxOf x : Nat) : Int)).map rowD)), c4, c5]) ⟨none, none, rfl⟩ step
 rw [aG e3]
 simp only [xecs, xec, ev, evs, frz, frz1, leaks, leakss, rdR, rdV, Zc, Zf, Zk, Zl, Zo, Zq, if_true, if_false, Bool.false_eq_true, ZP, List.length_map, List.take_length, numV]
noncomputable def Bsame (w : Nat) : List Sm := [(.ite (.or (.not (.leaf (.op1 .isTup (.var 0)))) (.or (.leaf (.op2 .ne (.op1 .len (.var 0)) (.cst (.int 2)))) (.not (.leaf (.op1 .isTup (.op2 .at (.var 0) (.cst (.int 0)))))))) [(.ret (.cst (.bl false)))] []), (.ite (.or (.not (.leaf (.call w [(.op2 .at (.var 0) (.cst (.int 1)))]))) (.or (.leaf (.op2 .ne (.op2 .at (.var 0) (.cst (.int 1))) (.op2 .at (.var 1) (.cst (.int 1))))) (.leaf (.op2 .ne (.op1 .len (.op2 .at (.var 0) (.cst (.int 0)))) (.op1 .len (.op2 .at (.var 1) (.cst (.int 0)))))))) [(.ret (.cst (.bl false)))] []), (.loop .rng [(.op1 .len (.op2 .at (.var 1) (.cst (.int 0))))] [2] [(.asg 3 (.op2 .at (.op2 .at (.var 0) (.cst (.int 0))) (.var 2))), (.ite (.or (.not (.leaf (.op1 .isTup (.var 3)))) (.leaf (.op2 .ne (.op1 .len (.var 3)) (.cst (.int 4))))) [(.ret (.cst (.bl false)))] []), (.loop .rng [(.cst (.int 4))] [4] [(.ite (.or (.not (.leaf (.call w [(.op2 .at (.var 3) (.var 4))]))) (.leaf (.op2 .ne (.op2 .at (.var 3) (.var 4)) (.op2 .at (.op2 .at (.op2 .at (.var 1) (.cst (.int 0))) (.var 2)) (.var 4))))) [(.ret (.cst (.bl false)))] [])])]), (.ret (.cst (.bl true)))]
theorem j5 (n : Nat) (r : List Int) : plns n (intL r) = true := by
 induction r with
 | nil => rfl
 | cons x r ih => exact ih
theorem iA (n : Nat) (Q : List (List Int)) : plns (n + 1) (Q.map rowD) = true := by
 induction Q with
 | nil => rfl
 | cons r Q ih =>
  show (pln (n + 1) (rowD r) && plns (n + 1) (Q.map rowD)) = true
  rw [ih]
  show ((decide (0 < n + 1) && plns n (intL r)) && true) = true
  rw [j5]; simp
theorem nW (r : List Int) : op1 .isTup (rowD r) = .ok (.bl true) := kY _ (j5 999 r)
theorem lC (Q : List (List Int)) : op1 .isTup (.tup (Q.map rowD)) = .ok (.bl true) := kY _ (iA 998 Q)
theorem j6 (Q : List (List Int)) (g : Int) : op1 .isTup (.tup [.tup (Q.map rowD), .int g]) = .ok (.bl true) := by
 refine kY _ ?_
 show (pln 999 (.tup (Q.map rowD)) && true) = true
 show ((decide (0 < 999) && plns 998 (Q.map rowD)) && true) = true
 rw [iA 997]; rfl
theorem qB {w : Nat} {Q : List (List Int)} {g : Int} (hw : ∀ x : Int, Φ w [.int x] = .ok (.bl true)) (h4 : ∀ r ∈ Q, r.length = 4) (hQ : Q.length ≤ 1000) :
  xecs Φ G n (Bsame w) [some (false, .tup [.tup (Q.map rowD), .int g]), some (false, .tup [.tup (Q.map rowD), .int g]), none, none, none] = .rt (.bl true) := by
 generalize hd : D.tup [.tup (Q.map rowD), .int g] = d0
 have t0 : op1 .isTup d0 = .ok (.bl true) := by rw [← hd]; exact j6 Q g
 have l0 : op1 .len d0 = .ok (.int 2) := by rw [← hd]; rfl
 have a0 : op2 .at d0 (.int 0) = .ok (.tup (Q.map rowD)) := by rw [← hd]; rfl
 have a1 : op2 .at d0 (.int 1) = .ok (.int g) := by rw [← hd]; rfl
 have z2 : (((2 : Int) == 2)) = true := rfl
 have z4 : (((4 : Int) == 4)) = true := rfl
 have zg : (g == g) = true := beq_self_eq_true g
 have zl : (((Q.map rowD).length : Int) == ((Q.map rowD).length : Int)) = true := beq_self_eq_true _
 unfold Bsame
 have e1 : xec Φ G n (.ite (.or (.not (.leaf (.op1 .isTup (.var 0)))) (.or (.leaf (.op2 .ne (.op1 .len (.var 0)) (.cst (.int 2)))) (.not (.leaf (.op1 .isTup (.op2 .at (.var 0) (.cst (.int 0)))))))) [(.ret (.cst (.bl false)))] []) [some (false, d0), some (false, d0), none, none, none] = .nx [some (false, d0), some (false, d0), none, none, none] := by
  simp only [xecs, xec, evT, ev, frz, leaksT, leaks, rdR, rdV, Za, Zc, Zf, Zk, Zq, if_true, if_false, Bool.false_eq_true, Zv, ZH, t0, l0, z2, a0, lC]
 have e2 : xec Φ G n (.ite (.or (.not (.leaf (.call w [(.op2 .at (.var 0) (.cst (.int 1)))]))) (.or (.leaf (.op2 .ne (.op2 .at (.var 0) (.cst (.int 1))) (.op2 .at (.var 1) (.cst (.int 1))))) (.leaf (.op2 .ne (.op1 .len (.op2 .at (.var 0) (.cst (.int 0)))) (.op1 .len (.op2 .at (.var 1) (.cst (.int 0)))))))) [(.ret (.cst (.bl false)))] []) [some (false, d0), some (false, d0), none, none, none] = .nx [some (false, d0), some (false, d0), none, none, none] := by
  simp only [xecs, xec, evT, ev, evs, frz, leaksT, leaks, leakss, rdR, rdV, Za, Zc, Zf, Zk, Zl, Zq, if_true, if_false, Bool.false_eq_true, Zv, ZH, ZM, a0, a1, hw, zg, zl]
 rw [aG e1, aG e2]
 have inner : ∀ (k : Nat) (c4 : Slot), k < Q.length → ∃ c4', xec Φ G n (.loop .rng [(.cst (.int 4))] [4] [(.ite (.or (.not (.leaf (.call w [(.op2 .at (.var 3) (.var 4))]))) (.leaf (.op2 .ne (.op2 .at (.var 3) (.var 4)) (.op2 .at (.op2 .at (.op2 .at (.var 1) (.cst (.int 0))) (.var 2)) (.var 4))))) [(.ret (.cst (.bl false)))] [])]) [some (false, d0), some (false, d0), some (false, .int (k : Nat)), some (false, rowD (Q.getD k [])), c4] = .nx [some (false, d0), some (false, d0), some (false, .int (k : Nat)), some (false, rowD (Q.getD k [])), c4'] := by
  intro k c4 hk
  have hq : Q.getD k [] = Q[k] := by simp [hk]
  have hr : (Q.getD k []).length = 4 := by rw [hq]; exact h4 _ (List.getElem_mem hk)
  have hrow := bY (Q := Q) hk
  generalize Q.getD k [] = r at *
  have step : ∀ i, i < 4 → ∀ δ, (∃ c, δ = [some (false, d0), some (false, d0), some (false, .int (k : Nat)), some (false, rowD r), c]) → ∃ δ', loopF Φ G n [4] [(.ite (.or (.not (.leaf (.call w [(.op2 .at (.var 3) (.var 4))]))) (.leaf (.op2 .ne (.op2 .at (.var 3) (.var 4)) (.op2 .at (.op2 .at (.op2 .at (.var 1) (.cst (.int 0))) (.var 2)) (.var 4))))) [(.ret (.cst (.bl false)))] [])] (.int (i : Nat)) δ = .nx δ' ∧ ∃ c, δ' = [some (false, d0), some (false, d0), some (false, .int (k : Nat)), some (false, rowD r), c] := by
   rintro i hi δ ⟨c, rfl⟩
   have ha := j2 (r := r) (e := i) (by omega)
   have hz : (r.getD i 0 == r.getD i 0) = true := beq_self_eq_true _
   refine ⟨_, ?_, some (false, .int (i : Nat)), rfl⟩
   simp only [rowD] at hrow
   simp only [loopF, rowD, xecs, xec, evT, ev, evs, frz, leaksT, leaks, leakss, rdR, rdV, Za, Zc, Py.sets, spread, Ze, Zf, Zi, Zj, Zk, Zl, Zq, if_true, if_false, Bool.false_eq_true, Zv, ZH, ZJ, ha, hw, a0, hrow, hz, List.length_cons, List.length_nil, Nat.zero_add]
  obtain ⟨δ', e, c, rfl⟩ := jX (Φ := Φ) (G := G) (n := n) (its := [(.cst (.int 4))]) (tg := [4]) (body := [(.ite (.or (.not (.leaf (.call w [(.op2 .at (.var 3) (.var 4))]))) (.leaf (.op2 .ne (.op2 .at (.var 3) (.var 4)) (.op2 .at (.op2 .at (.op2 .at (.var 1) (.cst (.int 0))) (.var 2)) (.var 4))))) [(.ret (.cst (.bl false)))] [])]) (δ := [some (false, d0), some (false, d0), some (false, .int (k : Nat)), some (false, rowD r), c4]) (m := 4) (by simp only [ev, evs, Zf]; exact bV (n := 4) (by decide))
   (fun i δ => ∃ c, δ = [some (false, d0), some (false, d0), some (false, .int (k : Nat)), some (false, rowD r), c]) ⟨c4, rfl⟩ step
  exact ⟨c, e⟩
 have step : ∀ i, i < Q.length → ∀ δ, (∃ c2 c3 c4, δ = [some (false, d0), some (false, d0), c2, c3, c4]) → ∃ δ', loopF Φ G n [2] [(.asg 3 (.op2 .at (.op2 .at (.var 0) (.cst (.int 0))) (.var 2))), (.ite (.or (.not (.leaf (.op1 .isTup (.var 3)))) (.leaf (.op2 .ne (.op1 .len (.var 3)) (.cst (.int 4))))) [(.ret (.cst (.bl false)))] []), (.loop .rng [(.cst (.int 4))] [4] [(.ite (.or (.not (.leaf (.call w [(.op2 .at (.var 3) (.var 4))]))) (.leaf (.op2 .ne (.op2 .at (.var 3) (.var 4)) (.op2 .at (.op2 .at (.op2 .at (.var 1) (.cst (.int 0))) (.var 2)) (.var 4))))) [(.ret (.cst (.bl false)))] [])])] (.int (i : Nat)) δ = .nx δ' ∧ ∃ c2 c3 c4, δ' = [some (false, d0), some (false, d0), c2, c3, c4] := by
  rintro i hi δ ⟨c2, c3, c4, rfl⟩
  have hrow := bY (Q := Q) hi
  have hr : (Q.getD i []).length = 4 := by rw [show Q.getD i [] = Q[i] by simp [hi]]; exact h4 _ (List.getElem_mem hi)
  obtain ⟨c4', e⟩ := inner i c4 hi
  refine ⟨_, ?_, some (false, .int (i : Nat)), some (false, rowD (Q.getD i [])), c4', rfl⟩
  have f1 : xec Φ G n (.asg 3 (.op2 .at (.op2 .at (.var 0) (.cst (.int 0))) (.var 2))) [some (false, d0), some (false, d0), some (false, .int (i : Nat)), c3, c4] = .nx [some (false, d0), some (false, d0), some (false, .int (i : Nat)), some (false, rowD (Q.getD i [])), c4] := by
   simp only [xec, ev, frz, leaks, rdR, rdV, Zc, isOwn, frsh, Ze, Zf, Zi, Zj, Zk, Zl, Zq, if_true, Zu, ZJ, a0, hrow]
  have ll : op1 .len (rowD (Q.getD i [])) = .ok (.int 4) := by
   show R.ok (D.int ((intL (Q.getD i [])).length : Nat)) = _
   simp only [intL, List.length_map, hr]; rfl
  have f2 : xec Φ G n (.ite (.or (.not (.leaf (.op1 .isTup (.var 3)))) (.leaf (.op2 .ne (.op1 .len (.var 3)) (.cst (.int 4))))) [(.ret (.cst (.bl false)))] []) [some (false, d0), some (false, d0), some (false, .int (i : Nat)), some (false, rowD (Q.getD i [])), c4] = .nx [some (false, d0), some (false, d0), some (false, .int (i : Nat)), some (false, rowD (Q.getD i [])), c4] := by
   simp only [xecs, xec, evT, ev, frz, leaksT, leaks, rdR, rdV, Za, Zc, Zf, Zk, Zl, Zq, if_true, if_false, Bool.false_eq_true, Zv, ZH, nW, ll, z4]
  simp only [loopF, spread, List.length_cons, List.length_nil, Nat.zero_add, Py.sets, List.set_cons_zero, List.set_cons_succ]
  rw [aG f1, aG f2, aG e]
  rfl
 obtain ⟨δ', e3, c2, c3, c4, rfl⟩ := jX (Φ := Φ) (G := G) (n := n) (its := [(.op1 .len (.op2 .at (.var 1) (.cst (.int 0))))]) (tg := [2]) (body := [(.asg 3 (.op2 .at (.op2 .at (.var 0) (.cst (.int 0))) (.var 2))), (.ite (.or (.not (.leaf (.op1 .isTup (.var 3)))) (.leaf (.op2 .ne (.op1 .len (.var 3)) (.cst (.int 4))))) [(.ret (.cst (.bl false)))] []), (.loop .rng [(.cst (.int 4))] [4] [(.ite (.or (.not (.leaf (.call w [(.op2 .at (.var 3) (.var 4))]))) (.leaf (.op2 .ne (.op2 .at (.var 3) (.var 4)) (.op2 .at (.op2 .at (.op2 .at (.var 1) (.cst (.int 0))) (.var 2)) (.var 4))))) [(.ret (.cst (.bl false)))] [])])]) (δ := [some (false, d0), some (false, d0), none, none, none]) (m := Q.length)
  (by simp only [ev, evs, frz, leaks, leakss, rdR, rdV, Zf, Zk, Zl, Zq, if_true, ZM, a0, List.length_map]; exact bV hQ) (fun i δ => ∃ c2 c3 c4, δ = [some (false, d0), some (false, d0), c2, c3, c4]) ⟨none, none, none, rfl⟩ step
 rw [aG e3]
 simp only [xecs, xec, ev, frz, leaks, Zc]
end
end Py
namespace Py
noncomputable def shD (Q : List (List Int)) (g : Int) : D := .tup [.tup (Q.map rowD), .int g]
theorem mI {R : List (List Int)} (h4 : ∀ r ∈ R, r.length = 4) : R.flatten.length ≤ 4 * R.length := by
 induction R with
 | nil => simp
 | cons r R ih =>
  have := ih fun x hx => h4 x (List.mem_cons_of_mem _ hx)
  have h := h4 r List.mem_cons_self
  simp only [List.flatten_cons, List.length_append, List.length_cons]
  omega
theorem row4 {r : List Int} (h : r.length = 4) : ∃ a b c d, r = [a, b, c, d] := by
 match r, h with
 | [a, b, c, d], _ => exact ⟨a, b, c, d, rfl⟩
end Py
namespace Py
section
variable {Φ : Nat → List D → R D} {G : List D} {n : Nat}
theorem bJ {s : Sm} {ss : List Sm} {δ : Sto} {d : D} (h : xec Φ G n s δ = .rt d) : xecs Φ G n (s :: ss) δ = .rt d := by rw [xecs, h]
theorem fA {s : Sm} {ss : List Sm} {δ δ' : Sto} {c : Nat} (h : xec Φ G n s δ = .xc c δ') : xecs Φ G n (s :: ss) δ = .xc c δ' := by rw [xecs, h]
end
end Py
namespace Py
theorem at2_0 {α : Type} (a b : α) : atD [a, b] 0 = some a := rfl
theorem iB {α : Type} (a b : α) : atD [a, b] 1 = some b := rfl
theorem qC {Q : List (List Int)} {line : Int} {p : Nat × Nat} (h : p ∈ placesV Q line) : p.1 < Q.length ∧ p.2 < 4 ∧ (Q.getD p.1 []).getD p.2 0 = line := by
 simp only [placesV, placesN, placesR, List.mem_flatMap, List.mem_range, List.mem_map, List.mem_filter] at h
 obtain ⟨k, hk, e, ⟨he, hv⟩, rfl⟩ := h
 exact ⟨hk, he, by simpa using hv⟩
theorem Sheet.two_of {Q : List (List Int)} {m : Nat} (s : Sheet Q m) {x : Int} (h : placesV Q x ≠ []) : (0 ≤ x ∧ x < (2 * m : Nat)) ∧ ∃ a b, placesV Q x = [a, b] := by
 by_cases hr : x < 0 ∨ (2 * m : Nat) ≤ x
 ·exact absurd (s.none hr) h
 ·refine ⟨by omega, ?_⟩
  have := s.places (v := x.toNat) (by omega)
  rw [show ((x.toNat : Nat) : Int) = x by omega] at this
  match placesV Q x, this with
  | [a, b], _ => exact ⟨a, b, rfl⟩
noncomputable def setP (Q : List (List Int)) (p : Nat × Nat) (v : Int) : List (List Int) := Q.set p.1 ((Q.getD p.1 []).set p.2 v)
theorem b7 (Q : List (List Int)) (p : Nat × Nat) (v : Int) : (setP Q p v).length = Q.length := by simp [setP]
theorem bB {Q : List (List Int)} {p : Nat × Nat} {v : Int} (h4 : ∀ r ∈ Q, r.length = 4) : ∀ r ∈ setP Q p v, r.length = 4 := by
 intro r hr
 by_cases hp : p.1 < Q.length
 ·rcases List.mem_or_eq_of_mem_set hr with h | h
  ·exact h4 r h
  ·rw [h, List.length_set]
   have : Q.getD p.1 [] = Q[p.1] := by simp [hp]
   rw [this]; exact h4 _ (List.getElem_mem hp)
 ·rw [setP, List.set_eq_of_length_le (by omega)] at hr
  exact h4 r hr
section
variable {Φ : Nat → List D → R D} {G : List D} {n : Nat}
noncomputable def Brelined : List Sm := [(.asg 3 (.op1 .list (.var 0))), (.asg 4 (.op2 .at (.var 3) (.op2 .at (.var 1) (.cst (.int 0))))), (.put 3 (.op2 .at (.var 1) (.cst (.int 0))) (.op2 .add (.op2 .add (.slc (.var 4) none (some (.op2 .at (.var 1) (.cst (.int 1))))) (.tup [(.var 2)])) (.slc (.var 4) (some (.op2 .add (.op2 .at (.var 1) (.cst (.int 1))) (.cst (.int 1)))) none))), (.ret (.var 3))]
theorem j7 {d0 : D} {Q : List (List Int)} {p : Nat × Nat} {v : Int} (hl : op1 .list d0 = .ok (.lst (Q.map rowD))) (h4 : ∀ r ∈ Q, r.length = 4) (h1 : p.1 < Q.length) (h2 : p.2 < 4) :
  xecs Φ G n Brelined [some (false, d0), some (false, pairD p), some (false, .int v), none, none] = .rt (.lst ((setP Q p v).map rowD)) := by
 have a0 : op2 .at (pairD p) (.int 0) = .ok (.int (p.1 : Nat)) := rfl
 have hq : Q.getD p.1 [] = Q[p.1] := by simp [h1]
 have hr : (Q.getD p.1 []).length = 4 := by rw [hq]; exact h4 _ (List.getElem_mem h1)
 have hrow := bY h1
 have hset : (setP Q p v).map rowD = (Q.map rowD).set p.1 (rowD ((Q.getD p.1 []).set p.2 v)) := by rw [setP, List.map_set]
 have i1 : ixD (Q.map rowD).length (p.1 : Nat) = some p.1 := fY (by simpa using h1)
 rw [hset]
 generalize Q.getD p.1 [] = r at *
 generalize Q.map rowD = X at *
 unfold Brelined
 have e1 : xec Φ G n (.asg 3 (.op1 .list (.var 0))) [some (false, d0), some (false, pairD p), some (false, .int v), none, none] = .nx [some (false, d0), some (false, pairD p), some (false, .int v), some (true, .lst X), none] := by
  simp only [xec, ev, frz, leaks, rdR, rdV, Zc, isOwn, frsh, Zf, Zi, Zj, Zk, if_true, Zt, hl]
 have e2 : xec Φ G n (.asg 4 (.op2 .at (.var 3) (.op2 .at (.var 1) (.cst (.int 0))))) [some (false, d0), some (false, pairD p), some (false, .int v), some (true, .lst X), none] = .nx [some (false, d0), some (false, pairD p), some (false, .int v), some (true, .lst X), some (false, rowD r)] := by
  simp only [xec, ev, frz, leaks, rdR, rdV, Zc, isOwn, frsh, Ze, Zf, Zi, Zj, Zk, Zl, Zq, if_true, Zu, ZI, a0, hrow]
 have c3 : ev Φ G false (.op2 .add (.op2 .add (.slc (.var 4) none (some (.op2 .at (.var 1) (.cst (.int 1))))) (.tup [(.var 2)])) (.slc (.var 4) (some (.op2 .add (.op2 .at (.var 1) (.cst (.int 1))) (.cst (.int 1)))) none)) [some (false, d0), some (false, pairD p), some (false, .int v), some (true, .lst X), some (false, rowD r)] = .ok (rowD (r.set p.2 v)) := by
  obtain ⟨a, b, c, d, rfl⟩ := row4 hr
  obtain ⟨p1, p2⟩ := p
  have : p2 = 0 ∨ p2 = 1 ∨ p2 = 2 ∨ p2 = 3 := by simp only at h2; omega
  rcases this with rfl | rfl | rfl | rfl <;> rfl
 have e3 : xec Φ G n (.put 3 (.op2 .at (.var 1) (.cst (.int 0))) (.op2 .add (.op2 .add (.slc (.var 4) none (some (.op2 .at (.var 1) (.cst (.int 1))))) (.tup [(.var 2)])) (.slc (.var 4) (some (.op2 .add (.op2 .at (.var 1) (.cst (.int 1))) (.cst (.int 1)))) none))) [some (false, d0), some (false, pairD p), some (false, .int v), some (true, .lst X), some (false, rowD r)] = .nx [some (false, d0), some (false, pairD p), some (false, .int v), some (true, .lst (X.set p.1 (rowD (r.set p.2 v)))), some (false, rowD r)] := by
  rw [xec]
  show (Out.of (ev Φ G false _ [some (false, d0), some (false, pairD p), some (false, .int v), some (true, .lst X), some (false, rowD r)]) _ fun x => _) = _
  rw [c3, of_ok]
  simp only [ev, frz, frz1, leaks, leakss, leaksP, rdR, rdV, Zc, Zf, Zi, Zj, Zk, Zl, Zo, Zq, if_true, if_false, Bool.false_eq_true, a0, putD, ownL, i1]
 rw [aG e1, aG e2, aG e3]
 simp only [xecs, xec, ev, frz, frz1, leaks, rdR, rdV, Zc, Zi, Zj, Zk, Zl, if_false, Bool.false_eq_true]
end
end Py
namespace Py
noncomputable def okP (m : Nat) (p : Nat × Nat) : Prop := p.1 < m ∧ p.2 < 4
noncomputable def lineV (Q : List (List Int)) (p : Nat × Nat) : Int := (Q.getD p.1 []).getD p.2 0
noncomputable def oppV (p : Nat × Nat) : Nat × Nat := (p.1, (p.2 + 2) % 4)
noncomputable def mateV (Q : List (List Int)) (p : Nat × Nat) : Nat × Nat := match placesV Q (lineV Q p) with
 | [a, b] => if a = p then b else a
 | _ => p
theorem qD {m : Nat} {p : Nat × Nat} (h : okP m p) : okP m (oppV p) := ⟨h.1, Nat.mod_lt _ (by decide)⟩
theorem places_mem {Q : List (List Int)} {line : Int} {p : Nat × Nat} : p ∈ placesV Q line ↔ okP Q.length p ∧ lineV Q p = line := by
 constructor
 ·intro h
  obtain ⟨a, b, c⟩ := qC h
  exact ⟨⟨a, b⟩, c⟩
 ·rintro ⟨⟨h1, h2⟩, h3⟩
  simp only [placesV, placesN, placesR, List.mem_flatMap, List.mem_range, List.mem_map, List.mem_filter]
  exact ⟨p.1, h1, p.2, ⟨h2, by simpa [lineV] using h3⟩, rfl⟩
theorem iZ (Q : List (List Int)) (line : Int) : (placesV Q line).Nodup := by
 unfold placesV placesN List.Nodup
 rw [List.pairwise_flatMap]
 constructor
 ·intro k _
  unfold placesR
  rw [List.pairwise_map]
  refine List.Pairwise.imp ?_ (List.Pairwise.filter _ List.nodup_range)
  intro a b hab e
  exact hab (congrArg Prod.snd e)
 ·refine List.Pairwise.imp ?_ List.nodup_range
  intro a b hab x hx y hy e
  unfold placesR at hx hy
  obtain ⟨_, _, rfl⟩ := List.mem_map.mp hx
  obtain ⟨_, _, rfl⟩ := List.mem_map.mp hy
  exact hab (congrArg Prod.fst e)
theorem Sheet.pair {Q : List (List Int)} {m : Nat} (s : Sheet Q m) {p : Nat × Nat} (h : okP m p) : ∃ q, mateV Q p = q ∧ q ≠ p ∧ okP m q ∧ lineV Q q = lineV Q p ∧ (placesV Q (lineV Q p) = [p, q] ∨ placesV Q (lineV Q p) = [q, p]) := by
 have hp : p ∈ placesV Q (lineV Q p) := places_mem.mpr ⟨by rw [s.len]; exact h, rfl⟩
 obtain ⟨_, a, b, hab⟩ := s.two_of (fun e => by rw [e] at hp; cases hp)
 have nd := iZ Q (lineV Q p)
 have ma : a ∈ placesV Q (lineV Q p) := by rw [hab]; simp
 have mb : b ∈ placesV Q (lineV Q p) := by rw [hab]; simp
 have ka := places_mem.mp ma
 have kb := places_mem.mp mb
 rw [s.len] at ka kb
 rw [hab] at hp nd
 have ne : a ≠ b := by
  have := List.pairwise_cons.mp nd
  exact this.1 b (by simp)
 have e : mateV Q p = if a = p then b else a := by unfold mateV; rw [hab]
 by_cases hap : a = p
 ·rw [if_pos hap] at e
  subst hap
  exact ⟨b, e, ne.symm, kb.1, kb.2, .inl hab⟩
 ·rw [if_neg hap] at e
  have hb : p = b := by
   rcases List.mem_cons.mp hp with h | h
   ·exact absurd h.symm hap
   ·exact List.mem_singleton.mp h
  subst hb
  exact ⟨a, e, ne, ka.1, ka.2, .inr hab⟩
section
variable {Q : List (List Int)} {m : Nat} (s : Sheet Q m)
include s
theorem Sheet.mate_only {p q : Nat × Nat} (h : okP m p) (hq : okP m q) (e : lineV Q q = lineV Q p) : q = p ∨ q = mateV Q p := by
 obtain ⟨r, er, _, _, _, hr⟩ := s.pair h
 have : q ∈ placesV Q (lineV Q p) := places_mem.mpr ⟨by rw [s.len]; exact hq, e⟩
 rw [er]
 rcases hr with h | h <;> rw [h] at this <;> simp at this <;> rcases this with h | h <;> simp [h]
omit s in
omit s in
omit s in
end
end Py
namespace Py
structure JS where
 left : List (List Int)
 g : Int
 w : List (List Int)
structure JOk (c np k : Nat) (s : JS) : Prop where
 len : s.left.length = c
 four : ∀ r ∈ s.left, r.length = 4
 wl : s.w.length = np - k
 two : ∀ r ∈ s.w, r.length = 2
section
variable {Φ : Nat → List D → R D} {G : List D} {n : Nat}
end
end Py
namespace Py
section
variable {Φ : Nat → List D → R D} {G : List D} {n : Nat}
noncomputable def Bat (c : Nat) : List Sm := [(.ite (.or (.leaf (.op2 .lt (.var 1) (.cst (.int 0)))) (.leaf (.op2 .ge (.var 1) (.op1 .len (.op2 .at (.var 0) (.cst (.int 0))))))) [(.rai c)] []), (.ret (.op2 .at (.op2 .at (.var 0) (.cst (.int 0))) (.var 1)))]
theorem at_run {c : Nat} {Q : List (List Int)} {g x : Int} : (xecs Φ G n (Bat c) [some (false, shD Q g), some (false, .int x)]).val = if x < 0 ∨ (Q.length : Int) ≤ x then .exc c else .ok (rowD (Q.getD x.toNat [])) := by
 have a0 : op2 .at (shD Q g) (.int 0) = .ok (.tup (Q.map rowD)) := rfl
 unfold Bat
 by_cases h1 : x < 0
 ·have q : decide (x < 0) = true := decide_eq_true h1
  rw [if_pos (.inl h1)]
  simp only [xecs, xec, evT, ev, frz, leaksT, leaks, rdR, rdV, Za, Zc, Zf, Zk, Zl, Zq, if_true, ZC, q]; rfl
 ·have q : decide (x < 0) = false := decide_eq_false h1
  by_cases h2 : (Q.length : Int) ≤ x
  ·have q2 : decide ((Q.length : Int) ≤ x) = true := decide_eq_true h2
   rw [if_pos (.inr h2)]
   simp only [xecs, xec, evT, ev, frz, leaksT, leaks, rdR, rdV, Za, Zc, Zf, Zk, Zl, Zq, if_true, if_false, Bool.false_eq_true, ZC, ZF, ZM, q, a0, List.length_map, q2]; rfl
  ·have q2 : decide ((Q.length : Int) ≤ x) = false := decide_eq_false h2
   rw [if_neg (by omega)]
   have ha := bY (Q := Q) (k := x.toNat) (by omega)
   rw [show ((x.toNat : Nat) : Int) = x by omega] at ha
   simp only [xecs, xec, evT, ev, frz, leaksT, leaks, rdR, rdV, Za, Zc, Ze, Zf, Zk, Zl, Zq, if_true, if_false, Bool.false_eq_true, ZC, ZF, ZJ, ZM, q, a0, List.length_map, q2, ha]; rfl
end
theorem eR (m : Nat) (fx : List (Nat × Nat)) : (startP m fx).owner.length = 4 * m := by
 show (fixT fx (List.replicate (4 * m) (-1)) fx.length).length = _
 rw [cP]; simp
theorem nX (pk : Nat → Int) (m : Nat) (fx : List (Nat × Nat)) : (runP pk (startP m fx)).owner.length = 4 * m := by
 rw [runP, dI, eR]
end Py
namespace Py
theorem GP.free {o : List Int} {l : List Nat} {nm : Nat} (g : GP ⟨o, l, nm⟩) : GP ⟨o, freeP o, nm⟩ := by
 have hmem : ∀ i, i ∈ freeP o ↔ i ∈ l := by
  intro i
  rw [freeP, List.mem_filter, List.mem_range]
  constructor
  ·rintro ⟨hi, hn⟩
   have hn : o.getD i 0 < 0 := of_decide_eq_true hn
   by_cases hl : i ∈ l
   ·exact hl
   ·have hs : o[i]? = some o[i] := List.getElem?_eq_getElem hi
    obtain ⟨v, _, ev⟩ := g.oth i o[i] hs hl
    have : o.getD i 0 = o[i] := by simp [hi]
    omega
  ·intro hl
   have := g.neg i hl
   have hi : i < o.length := (List.getElem?_eq_some_iff.mp this).1
   refine ⟨hi, decide_eq_true ?_⟩
   have e : o.getD i 0 = -1 := by
    have e2 : o[i]? = some (-1) := this
    simp [List.getD, e2]
   omega
 have hnd : (freeP o).Nodup := List.Pairwise.filter _ List.nodup_range
 have hp : (freeP o).Perm l := (List.perm_ext_iff_of_nodup hnd g.nd).mpr hmem
 refine ⟨hnd, fun i hi => g.neg i ((hmem i).mp hi), fun i x e hi => g.oth i x e fun z => hi ((hmem i).mpr z), g.two, ?_⟩
 have := g.sz
 show (freeP o).length + _ = _
 rw [hp.length_eq]; exact this
theorem GP.pairF {o : List Int} {nm a b : Nat} (g : GP ⟨o, freeP o, nm⟩) (ha : o[a]? = some (-1)) (hb : o[b]? = some (-1)) (hab : a ≠ b) : GP ⟨(o.set a nm).set b nm, freeP ((o.set a nm).set b nm), nm + 1⟩ := by
 have inF : ∀ i, o[i]? = some (-1) → i ∈ freeP o := fun i h => by
  rw [freeP, List.mem_filter, List.mem_range]
  exact ⟨(List.getElem?_eq_some_iff.mp h).1, decide_eq_true (by simp [List.getD, h])⟩
 have h1 : (freeP o).Perm (a :: (freeP o).erase a) := List.perm_cons_erase (inF a ha)
 have hb' : b ∈ (freeP o).erase a := (List.mem_erase_of_ne (Ne.symm hab)).mpr (inF b hb)
 have h2 : ((freeP o).erase a).Perm (b :: ((freeP o).erase a).erase b) := List.perm_cons_erase hb'
 have hp : (freeP o).Perm (a :: b :: (((freeP o).erase a).erase b ++ [])) := by
  rw [List.append_nil]
  exact h1.trans (List.Perm.cons a h2)
 exact (g.pair hp).free
theorem i0 {fx : List (Nat × Nat)} {o : List Int} {c : Nat} : ∀ i, (∀ j, j < i → (fx.getD j (0, 0)).1 ≠ c ∧ (fx.getD j (0, 0)).2 ≠ c) → (fixT fx o i)[c]? = o[c]?
 | 0, _ => rfl
 | i + 1, h => by
  rw [fixT, List.getElem?_set_ne (h i (by omega)).2, List.getElem?_set_ne (h i (by omega)).1]
  exact i0 i fun j hj => h j (by omega)
theorem GP.startF {m : Nat} {fx : List (Nat × Nat)} (hr : ∀ x ∈ fx, x.1 < 4 * m ∧ x.2 < 4 * m) (hne : ∀ x ∈ fx, x.1 ≠ x.2) (hd : ∀ i j, i < j → j < fx.length → ((fx.getD i (0, 0)).1 ≠ (fx.getD j (0, 0)).1 ∧ (fx.getD i (0, 0)).2 ≠ (fx.getD j (0, 0)).1) ∧ ((fx.getD i (0, 0)).1 ≠ (fx.getD j (0, 0)).2 ∧ (fx.getD i (0, 0)).2 ≠ (fx.getD j (0, 0)).2)) : GP (startP m fx) := by
 have key : ∀ i, i ≤ fx.length → GP ⟨fixT fx (List.replicate (4 * m) (-1)) i, freeP (fixT fx (List.replicate (4 * m) (-1)) i), i⟩ := by
  intro i
  induction i with
  | zero => intro _; exact GP.start0 m
  | succ i ih =>
   intro hi
   have hl : i < fx.length := by omega
   have hm : fx.getD i (0, 0) ∈ fx := by simp [List.getD, List.getElem?_eq_getElem hl]
   have r := hr _ hm
   have g := ih (by omega)
   exact g.pairF (by rw [i0 i fun j hj => (hd j i hj hl).1, List.getElem?_replicate, if_pos r.1]) (by rw [i0 i fun j hj => (hd j i hj hl).2, List.getElem?_replicate, if_pos r.2]) (hne _ hm)
 exact key fx.length (Nat.le_refl _)
theorem j8 {pk : Nat → Int} {m : Nat} {fx : List (Nat × Nat)} (g : GP (startP m fx)) : Sheet (numV (chunks m (runP pk (startP m fx)).owner)) m := by
 have g := g.run (pk := pk) (m := m) (eR m fx)
 obtain ⟨c1, c2⟩ := gG m _ g.2
 refine ⟨by rw [j0, c1], h8 c2, num_two ?_⟩
 rw [jZ m _ g.2]
 exact g.1
end Py
namespace L
open Py
noncomputable def dB : List Sm := [(.ite (.or (.leaf (.op2 .lt (.var 1) (.cst (.int 0)))) (.leaf (.op2 .ge (.var 1) (.op1 .len (.op2 .at (.var 0) (.cst (.int 0))))))) [(.rai 0)] []), (.ret (.op2 .at (.op2 .at (.var 0) (.cst (.int 0))) (.var 1)))]
noncomputable def gQ : Fn := ⟨2, 2, dB⟩
noncomputable def cT : List Sm := [(.ret (.op2 .at (.op2 .at (.var 0) (.op2 .at (.var 1) (.cst (.int 0)))) (.op2 .at (.var 1) (.cst (.int 1)))))]
noncomputable def nY : Fn := ⟨2, 2, cT⟩
noncomputable def cM : List Sm := [(.ret (.tup [(.op2 .at (.var 0) (.cst (.int 0))), (.op2 .mod (.op2 .add (.op2 .at (.var 0) (.cst (.int 1))) (.cst (.int 2))) (.cst (.int 4)))]))]
noncomputable def lD : Fn := ⟨1, 1, cM⟩
noncomputable def gH : List Sm := [(.new 2), (.asg 3 (.lst [])), (.loop .seq [(.var 0)] [4] [(.loop .seq [(.var 4)] [5] [(.ite (.leaf (.din true (.var 5) (.var 2))) [(.dput 2 (.var 5) (.dlen (.var 2)))] [])]), (.app 3 (.op1 .tuple (.comp .seq [(.var 4)] [2] 1 none (.dget (.var 1) (.var 0)))))]), (.ret (.tup [(.op1 .tuple (.var 3)), (.var 1)]))]
noncomputable def lE : Fn := ⟨2, 6, gH⟩
noncomputable def i4 : List Sm := [(.asg 4 (.mapx (.tup [(.var 1), (.var 2), (.var 3)]) [0] 0 [(.var 1), (.var 0)])), (.ite (.or (.leaf (.op2 .eq (.var 1) (.var 2))) (.or (.leaf (.op2 .eq (.var 1) (.var 3))) (.leaf (.op2 .eq (.var 2) (.var 3))))) [(.rai 1)] []), (.loop .seq [(.tup [(.cst (.int 1)), (.cst (.int 3))])] [5] [(.loop .seq [(.tup [(.cst (.int 0)), (.cst (.int 2))])] [6] [(.asg 7 (.call 5 [(.var 4), (.var 6), (.var 5)])), (.ite (.leaf (.op1 .isNotNone (.var 7))) [(.ret (.call 3 [(.call 7 [(.op2 .at (.var 0) (.cst (.int 0))), (.tup [(.var 1), (.var 2), (.var 3)]), (.var 7)]), (.op2 .at (.var 0) (.cst (.int 1)))]))] [])])]), (.rai 1)]
noncomputable def f_slid : Fn := ⟨4, 8, i4⟩
noncomputable def bU : List Sm := [(.asg 3 (.op2 .mod (.op2 .add (.var 1) (.var 2)) (.cst (.int 4)))), (.asg 4 (.call 6 [(.op2 .at (.var 0) (.cst (.int 1))), (.tup [(.cst (.int 1)), (.cst (.int 3))]), (.op2 .at (.op2 .at (.var 0) (.cst (.int 0))) (.var 3))])), (.ite (.leaf (.op1 .isNone (.var 4))) [(.ret (.cst .non))] []), (.asg 5 (.op2 .mod (.op2 .add (.var 4) (.var 2)) (.cst (.int 4)))), (.asg 6 (.call 6 [(.op2 .at (.var 0) (.cst (.int 2))), (.tup [(.cst (.int 0)), (.cst (.int 2))]), (.op2 .at (.op2 .at (.var 0) (.cst (.int 1))) (.var 5))])), (.ite (.leaf (.op1 .isNone (.var 6))) [(.ret (.cst .non))] []), (.asg 7 (.op2 .mod (.op2 .add (.var 6) (.var 2)) (.cst (.int 4)))), (.ite (.leaf (.op2 .ne (.op2 .at (.op2 .at (.var 0) (.cst (.int 2))) (.var 7)) (.op2 .at (.op2 .at (.var 0) (.cst (.int 0))) (.var 1)))) [(.ret (.cst .non))] []), (.ret (.tup [(.tup [(.var 1), (.var 3)]), (.tup [(.var 4), (.var 5)]), (.tup [(.var 6), (.var 7)])]))]
noncomputable def i5 : Fn := ⟨3, 8, bU⟩
noncomputable def bN : List Sm := [(.loop .seq [(.var 1)] [3] [(.ite (.leaf (.op2 .eq (.op2 .at (.var 0) (.var 3)) (.var 2))) [(.ret (.var 3))] [])]), (.ret (.cst .non))]
noncomputable def lF : Fn := ⟨3, 4, bN⟩
noncomputable def d5 : List Sm := [(.asg 3 (.tup [(.tup [(.tup [(.op2 .at (.var 1) (.cst (.int 0))), (.op2 .at (.op2 .at (.var 2) (.cst (.int 0))) (.cst (.int 1)))]), (.tup [(.op2 .at (.var 1) (.cst (.int 1))), (.op2 .at (.op2 .at (.var 2) (.cst (.int 1))) (.cst (.int 0)))])]), (.tup [(.tup [(.op2 .at (.var 1) (.cst (.int 0))), (.op2 .at (.op2 .at (.var 2) (.cst (.int 0))) (.cst (.int 0)))]), (.tup [(.op2 .at (.var 1) (.cst (.int 2))), (.op2 .at (.op2 .at (.var 2) (.cst (.int 2))) (.cst (.int 1)))])]), (.tup [(.tup [(.op2 .at (.var 1) (.cst (.int 1))), (.op2 .at (.op2 .at (.var 2) (.cst (.int 1))) (.cst (.int 1)))]), (.tup [(.op2 .at (.var 1) (.cst (.int 2))), (.op2 .at (.op2 .at (.var 2) (.cst (.int 2))) (.cst (.int 0)))])])])), (.asg 4 (.op1 .list (.var 0))), (.loop .seq [(.var 3)] [5, 6] [(.asg 7 (.call 1 [(.var 0), (.var 5)])), (.asg 4 (.call 8 [(.var 4), (.var 5), (.call 1 [(.var 0), (.call 2 [(.var 6)])])])), (.asg 4 (.call 8 [(.var 4), (.var 6), (.call 1 [(.var 0), (.call 2 [(.var 5)])])])), (.asg 4 (.call 8 [(.var 4), (.call 2 [(.var 5)]), (.var 7)])), (.asg 4 (.call 8 [(.var 4), (.call 2 [(.var 6)]), (.var 7)]))]), (.ret (.var 4))]
noncomputable def qE : Fn := ⟨3, 8, d5⟩
noncomputable def iC : List Sm := [(.asg 3 (.op1 .list (.var 0))), (.asg 4 (.op2 .at (.var 3) (.op2 .at (.var 1) (.cst (.int 0))))), (.put 3 (.op2 .at (.var 1) (.cst (.int 0))) (.op2 .add (.op2 .add (.slc (.var 4) none (some (.op2 .at (.var 1) (.cst (.int 1))))) (.tup [(.var 2)])) (.slc (.var 4) (some (.op2 .add (.op2 .at (.var 1) (.cst (.int 1))) (.cst (.int 1)))) none))), (.ret (.var 3))]
noncomputable def nZ : Fn := ⟨3, 5, iC⟩
noncomputable def dC : List Sm := [(.ite (.leaf (.op2 .lt (.var 1) (.op1 .len (.var 0)))) [(.ret (.op2 .at (.var 0) (.var 1)))] []), (.ret (.cst (.int 0)))]
noncomputable def gR : Fn := ⟨2, 2, dC⟩
noncomputable def gI : List Sm := [(.ite (.leaf (.op2 .lt (.var 1) (.op1 .len (.var 0)))) [(.ret (.op2 .at (.var 0) (.var 1)))] []), (.ret (.op2 .fdiv (.op2 .mod (.op2 .mul (.op2 .add (.op2 .add (.call 9 [(.var 0), (.cst (.int 0))]) (.op2 .mul (.cst (.int 7)) (.var 1))) (.cst (.int 3))) (.cst (.int 48271))) (.cst (.int 2147483647))) (.cst (.int 13))))]
noncomputable def lG : Fn := ⟨2, 2, gI⟩
noncomputable def gJ : List Sm := [(.asg 4 (.comp .rng [(.op2 .mul (.cst (.int 4)) (.var 2))] [] 1 none (.op1 .neg (.cst (.int 1))))), (.loop .rng [(.op1 .len (.var 3))] [5] [(.put 4 (.op2 .at (.op2 .at (.var 3) (.var 5)) (.cst (.int 0))) (.var 5)), (.put 4 (.op2 .at (.op2 .at (.var 3) (.var 5)) (.cst (.int 1))) (.var 5))]), (.asg 6 (.comp .rng [(.op2 .mul (.cst (.int 4)) (.var 2))] [4] 1 (some (.leaf (.op2 .lt (.op2 .at (.var 1) (.var 0)) (.cst (.int 0))))) (.var 0))), (.asg 7 (.op1 .len (.var 3))), (.whl (.leaf (.op2 .gt (.op1 .len (.var 6)) (.cst (.int 1)))) [(.asg 8 (.op2 .add (.cst (.int 1)) (.op2 .mod (.call 10 [(.var 0), (.op2 .add (.var 1) (.var 7))]) (.op2 .sub (.op1 .len (.var 6)) (.cst (.int 1)))))), (.put 4 (.op2 .at (.var 6) (.cst (.int 0))) (.var 7)), (.put 4 (.op2 .at (.var 6) (.var 8)) (.var 7)), (.asg 6 (.op2 .add (.slc (.var 6) (some (.cst (.int 1))) (some (.var 8))) (.slc (.var 6) (some (.op2 .add (.var 8) (.cst (.int 1)))) none))), (.asg 7 (.op2 .add (.var 7) (.cst (.int 1))))]), (.ret (.comp .rng [(.var 2)] [4] 1 none (.op1 .tuple (.slc (.var 1) (some (.op2 .mul (.cst (.int 4)) (.var 0))) (some (.op2 .add (.op2 .mul (.cst (.int 4)) (.var 0)) (.cst (.int 4))))))))]
noncomputable def lH : Fn := ⟨4, 9, gJ⟩
noncomputable def cR : List Sm := [(.asg 1 (.lst [])), (.loop .seq [(.var 0)] [2] [(.loop .seq [(.var 2)] [3] [(.ite (.leaf (.op2 .notIn (.var 3) (.var 1))) [(.app 1 (.var 3))] [])])]), (.asg 4 (.lst [])), (.loop .seq [(.var 0)] [2] [(.app 4 (.op1 .tuple (.comp .seq [(.var 2)] [1] 1 none (.op2 .index (.var 1) (.var 0)))))]), (.ret (.op1 .tuple (.var 4)))]
noncomputable def gK : Fn := ⟨1, 5, cR⟩
noncomputable def eS : List Sm := [(.ret (.and (.op1 .isInt (.var 0)) (.not (.op1 .isBool (.var 0)))))]
noncomputable def j9 : Fn := ⟨1, 1, eS⟩
noncomputable def gL : List Sm := [(.ite (.or (.not (.leaf (.op1 .isTup (.var 0)))) (.or (.leaf (.op2 .ne (.op1 .len (.var 0)) (.cst (.int 2)))) (.not (.leaf (.op1 .isTup (.op2 .at (.var 0) (.cst (.int 0)))))))) [(.ret (.cst (.bl false)))] []), (.ite (.or (.not (.leaf (.call 13 [(.op2 .at (.var 0) (.cst (.int 1)))]))) (.or (.leaf (.op2 .ne (.op2 .at (.var 0) (.cst (.int 1))) (.op2 .at (.var 1) (.cst (.int 1))))) (.leaf (.op2 .ne (.op1 .len (.op2 .at (.var 0) (.cst (.int 0)))) (.op1 .len (.op2 .at (.var 1) (.cst (.int 0)))))))) [(.ret (.cst (.bl false)))] []), (.loop .rng [(.op1 .len (.op2 .at (.var 1) (.cst (.int 0))))] [2] [(.asg 3 (.op2 .at (.op2 .at (.var 0) (.cst (.int 0))) (.var 2))), (.ite (.or (.not (.leaf (.op1 .isTup (.var 3)))) (.leaf (.op2 .ne (.op1 .len (.var 3)) (.cst (.int 4))))) [(.ret (.cst (.bl false)))] []), (.loop .rng [(.cst (.int 4))] [4] [(.ite (.or (.not (.leaf (.call 13 [(.op2 .at (.var 3) (.var 4))]))) (.leaf (.op2 .ne (.op2 .at (.var 3) (.var 4)) (.op2 .at (.op2 .at (.op2 .at (.var 1) (.cst (.int 0))) (.var 2)) (.var 4))))) [(.ret (.cst (.bl false)))] [])])]), (.ret (.cst (.bl true)))]
noncomputable def lI : Fn := ⟨2, 5, gL⟩
noncomputable def dD : List Sm := [(.ret (.op2 .eq (.var 0) (.lst [(.op2 .eq (.var 1) (.cst (.int 0))), (.op2 .eq (.var 1) (.cst (.int 1))), (.op2 .eq (.var 1) (.cst (.int 2))), (.op2 .eq (.var 1) (.cst (.int 3))), (.op2 .eq (.var 1) (.cst (.int 4))), (.cst (.bl true))])))]
noncomputable def gS : Fn := ⟨2, 2, dD⟩
noncomputable def b8 : List Sm := [(.asg 4 (.cst .non)), (.asg 5 (.lst [])), (.tryx [(.asg 4 (.call 4 [(.var 0), (.var 1), (.var 2), (.var 3)]))] [0, 1] (some 6) [(.asg 5 (.lst [(.op1 (.isExn [false, false]) (.var 6)), (.op1 (.isExn [false, false]) (.var 6)), (.op1 (.isExn [true, false]) (.var 6))])), (.asg 5 (.op2 .add (.var 5) (.lst [(.op1 (.isExn [false, true]) (.var 6)), (.op1 (.isExn [false, false]) (.var 6)), (.op1 (.isExn [true, true]) (.var 6))])))]), (.ret (.tup [(.var 4), (.var 5)]))]
noncomputable def lJ : Fn := ⟨4, 7, b8⟩
noncomputable def cA : List Sm := [(.loop .seq [(.lst [(.cst (.int 1)), (.cst (.int 3))])] [3] [(.loop .seq [(.lst [(.cst (.int 0)), (.cst (.int 2))])] [4] [(.asg 5 (.op2 .mod (.op2 .add (.var 4) (.var 3)) (.cst (.int 4)))), (.loop .seq [(.lst [(.cst (.int 1)), (.cst (.int 3))])] [6] [(.asg 7 (.op2 .mod (.op2 .add (.var 6) (.var 3)) (.cst (.int 4)))), (.loop .seq [(.lst [(.cst (.int 0)), (.cst (.int 2))])] [8] [(.ite (.and (.leaf (.op2 .eq (.op2 .at (.var 1) (.var 6)) (.op2 .at (.var 0) (.var 5)))) (.and (.leaf (.op2 .eq (.op2 .at (.var 2) (.var 8)) (.op2 .at (.var 1) (.var 7)))) (.leaf (.op2 .eq (.op2 .at (.var 2) (.op2 .mod (.op2 .add (.var 8) (.var 3)) (.cst (.int 4)))) (.op2 .at (.var 0) (.var 4)))))) [(.ret (.lst [(.var 4), (.var 5), (.var 6), (.var 7), (.var 8), (.op2 .mod (.op2 .add (.var 8) (.var 3)) (.cst (.int 4)))]))] [])])])])]), (.ret (.lst []))]
noncomputable def kA : Fn := ⟨3, 9, cA⟩
noncomputable def gM : List Sm := [(.asg 4 (.op2 .at (.var 3) (.cst (.int 0)))), (.asg 5 (.op2 .at (.var 3) (.cst (.int 1)))), (.asg 6 (.op2 .at (.var 3) (.cst (.int 2)))), (.asg 7 (.op2 .at (.var 3) (.cst (.int 3)))), (.asg 8 (.op2 .at (.var 3) (.cst (.int 4)))), (.asg 9 (.op2 .at (.var 3) (.cst (.int 5)))), (.nest 10 [0, 1, 2] [(0, (.op2 .mod (.op2 .add (.var 5) (.cst (.int 2))) (.cst (.int 4))), (.op2 .at (.var 0) (.var 5))), (0, (.var 5), (.op2 .at (.var 1) (.op2 .mod (.op2 .add (.var 6) (.cst (.int 2))) (.cst (.int 4))))), (0, (.op2 .mod (.op2 .add (.var 4) (.cst (.int 2))) (.cst (.int 4))), (.op2 .at (.var 0) (.var 4))), (0, (.var 4), (.op2 .at (.var 2) (.op2 .mod (.op2 .add (.var 9) (.cst (.int 2))) (.cst (.int 4))))), (1, (.var 6), (.op2 .at (.var 0) (.op2 .mod (.op2 .add (.var 5) (.cst (.int 2))) (.cst (.int 4))))), (1, (.op2 .mod (.op2 .add (.var 6) (.cst (.int 2))) (.cst (.int 4))), (.op2 .at (.var 0) (.var 5))), (1, (.op2 .mod (.op2 .add (.var 7) (.cst (.int 2))) (.cst (.int 4))), (.op2 .at (.var 1) (.var 7))), (1, (.var 7), (.op2 .at (.var 2) (.op2 .mod (.op2 .add (.var 8) (.cst (.int 2))) (.cst (.int 4))))), (2, (.var 9), (.op2 .at (.var 0) (.op2 .mod (.op2 .add (.var 4) (.cst (.int 2))) (.cst (.int 4))))), (2, (.op2 .mod (.op2 .add (.var 9) (.cst (.int 2))) (.cst (.int 4))), (.op2 .at (.var 0) (.var 4))), (2, (.var 8), (.op2 .at (.var 1) (.op2 .mod (.op2 .add (.var 7) (.cst (.int 2))) (.cst (.int 4))))), (2, (.op2 .mod (.op2 .add (.var 8) (.cst (.int 2))) (.cst (.int 4))), (.op2 .at (.var 1) (.var 7)))]), (.ret (.lst [(.op1 .tuple (.op2 .at (.var 10) (.cst (.int 0)))), (.op1 .tuple (.op2 .at (.var 10) (.cst (.int 1)))), (.op1 .tuple (.op2 .at (.var 10) (.cst (.int 2))))]))]
noncomputable def lK : Fn := ⟨4, 11, gM⟩
noncomputable def bQ : List Sm := [(.asg 4 (.op2 .add (.cst (.int 1)) (.op2 .mul (.cst (.int 2)) (.op2 .mod (.var 3) (.cst (.int 2)))))), (.asg 5 (.op2 .mul (.cst (.int 2)) (.op2 .mod (.op2 .fdiv (.var 3) (.cst (.int 2))) (.cst (.int 2))))), (.asg 6 (.op2 .add (.cst (.int 1)) (.op2 .mul (.cst (.int 2)) (.op2 .mod (.op2 .fdiv (.var 3) (.cst (.int 4))) (.cst (.int 2)))))), (.asg 7 (.op2 .mul (.cst (.int 2)) (.op2 .mod (.op2 .fdiv (.var 3) (.cst (.int 8))) (.cst (.int 2))))), (.asg 8 (.tup [(.op2 .add (.op2 .mul (.cst (.int 4)) (.var 0)) (.op2 .mod (.op2 .add (.var 5) (.var 4)) (.cst (.int 4)))), (.op2 .add (.op2 .mul (.cst (.int 4)) (.var 1)) (.var 6))])), (.asg 9 (.tup [(.op2 .add (.op2 .mul (.cst (.int 4)) (.var 1)) (.op2 .mod (.op2 .add (.var 6) (.var 4)) (.cst (.int 4)))), (.op2 .add (.op2 .mul (.cst (.int 4)) (.var 2)) (.var 7))])), (.ret (.lst [(.var 8), (.var 9), (.tup [(.op2 .add (.op2 .mul (.cst (.int 4)) (.var 2)) (.op2 .mod (.op2 .add (.var 7) (.var 4)) (.cst (.int 4)))), (.op2 .add (.op2 .mul (.cst (.int 4)) (.var 0)) (.var 5))])]))]
noncomputable def gT : Fn := ⟨4, 10, bQ⟩
noncomputable def cB : List Sm := [(.asg 2 (.op2 .mod (.call 9 [(.var 0), (.cst (.int 1))]) (.var 1))), (.asg 3 (.op2 .mod (.op2 .add (.op2 .add (.var 2) (.cst (.int 1))) (.op2 .mod (.call 9 [(.var 0), (.cst (.int 2))]) (.op2 .sub (.var 1) (.cst (.int 1))))) (.var 1))), (.asg 4 (.comp .rng [(.var 1)] [2, 3] 1 (some (.and (.leaf (.op2 .ne (.var 0) (.var 1))) (.leaf (.op2 .ne (.var 0) (.var 2))))) (.var 0))), (.ret (.lst [(.var 2), (.var 3), (.op2 .at (.var 4) (.op2 .mod (.call 9 [(.var 0), (.cst (.int 3))]) (.op2 .sub (.var 1) (.cst (.int 2)))))]))]
noncomputable def kB : Fn := ⟨2, 5, cB⟩
noncomputable def cU : List Sm := [(.ite (.leaf (.op2 .eq (.op2 .mod (.var 0) (.cst (.int 2))) (.cst (.int 1)))) [(.ret (.op2 .add (.var 1) (.op2 .mod (.op2 .fdiv (.var 0) (.cst (.int 2))) (.op2 .pow (.cst (.int 10)) (.cst (.int 30))))))] []), (.ret (.op2 .sub (.op1 .neg (.cst (.int 1))) (.op2 .mod (.op2 .fdiv (.var 0) (.cst (.int 2))) (.op2 .pow (.cst (.int 10)) (.cst (.int 30))))))]
noncomputable def n4 : Fn := ⟨2, 2, cU⟩
noncomputable def mJ : List Sm := [(.asg 1 (.op2 .add (.cst (.int 3)) (.op2 .mod (.call 9 [(.var 0), (.cst (.int 0))]) (.cst (.int 8))))), (.asg 2 (.call 20 [(.var 0), (.var 1)])), (.asg 3 (.lst [])), (.ite (.leaf (.op2 .gt (.op2 .mod (.call 9 [(.var 0), (.cst (.int 4))]) (.cst (.int 6))) (.cst (.int 0)))) [(.asg 3 (.call 19 [(.op2 .at (.var 2) (.cst (.int 0))), (.op2 .at (.var 2) (.cst (.int 1))), (.op2 .at (.var 2) (.cst (.int 2))), (.op2 .mod (.call 9 [(.var 0), (.cst (.int 5))]) (.cst (.int 16)))]))] []), (.asg 4 (.call 12 [(.call 11 [(.var 0), (.cst (.int 9)), (.var 1), (.var 3)])])), (.asg 5 (.tup [(.var 4), (.op2 .mod (.call 9 [(.var 0), (.cst (.int 6))]) (.cst (.int 101)))])), (.ite (.leaf (.op2 .eq (.op2 .mod (.call 9 [(.var 0), (.cst (.int 7))]) (.cst (.int 5))) (.cst (.int 1)))) [(.asg 2 (.lst [(.op2 .at (.var 2) (.cst (.int 1))), (.op2 .at (.var 2) (.cst (.int 2))), (.op2 .at (.var 2) (.cst (.int 0)))]))] []), (.ite (.leaf (.op2 .eq (.op2 .mod (.call 9 [(.var 0), (.cst (.int 7))]) (.cst (.int 5))) (.cst (.int 2)))) [(.asg 6 (.call 9 [(.var 0), (.cst (.int 8))])), (.asg 2 (.lst [(.op2 .sub (.op2 .mod (.var 6) (.op2 .add (.var 1) (.cst (.int 2)))) (.cst (.int 1))), (.op2 .sub (.op2 .mod (.op2 .fdiv (.var 6) (.cst (.int 12))) (.op2 .add (.var 1) (.cst (.int 2)))) (.cst (.int 1))), (.op2 .sub (.op2 .mod (.op2 .fdiv (.var 6) (.cst (.int 144))) (.op2 .add (.var 1) (.cst (.int 2)))) (.cst (.int 1)))])), (.ite (.leaf (.op2 .eq (.op2 .mod (.op2 .fdiv (.var 6) (.cst (.int 2048))) (.cst (.int 3))) (.cst (.int 1)))) [(.put 2 (.op2 .mod (.op2 .fdiv (.var 6) (.cst (.int 6144))) (.cst (.int 3))) (.call 21 [(.op2 .fdiv (.var 6) (.cst (.int 18432))), (.var 1)]))] [])] []), (.asg 7 (.call 16 [(.var 5), (.op2 .at (.var 2) (.cst (.int 0))), (.op2 .at (.var 2) (.cst (.int 1))), (.op2 .at (.var 2) (.cst (.int 2)))])), (.ite (.or (.leaf (.op2 .lt (.op1 .minL (.var 2)) (.cst (.int 0)))) (.leaf (.op2 .ge (.op1 .maxL (.var 2)) (.var 1)))) [(.ret (.call 15 [(.op2 .at (.var 7) (.cst (.int 1))), (.cst (.int 2))]))] []), (.asg 8 (.lst [])), (.ite (.leaf (.op2 .eq (.op1 .nset (.var 2)) (.cst (.int 3)))) [(.asg 8 (.call 17 [(.op2 .at (.var 4) (.op2 .at (.var 2) (.cst (.int 0)))), (.op2 .at (.var 4) (.op2 .at (.var 2) (.cst (.int 1)))), (.op2 .at (.var 4) (.op2 .at (.var 2) (.cst (.int 2))))]))] []), (.ite (.leaf (.op2 .eq (.var 8) (.lst []))) [(.ret (.call 15 [(.op2 .at (.var 7) (.cst (.int 1))), (.cst (.int 3))]))] []), (.asg 9 (.call 18 [(.op2 .at (.var 4) (.op2 .at (.var 2) (.cst (.int 0)))), (.op2 .at (.var 4) (.op2 .at (.var 2) (.cst (.int 1)))), (.op2 .at (.var 4) (.op2 .at (.var 2) (.cst (.int 2)))), (.var 8)])), (.asg 10 (.op1 .list (.var 4))), (.loop .rng [(.cst (.int 3))] [11] [(.put 10 (.op2 .at (.var 2) (.var 11)) (.op2 .at (.var 9) (.var 11)))]), (.ret (.and (.op2 .eq (.op2 .at (.var 7) (.cst (.int 1))) (.lst [])) (.call 14 [(.op2 .at (.var 7) (.cst (.int 0))), (.tup [(.call 12 [(.var 10)]), (.op2 .at (.var 5) (.cst (.int 1)))])])))]
noncomputable def f_law : Fn := ⟨1, 12, mJ⟩
noncomputable def fns : List Fn := [gQ, nY, lD, lE, f_slid, i5, lF, qE, nZ, gR, lG, lH, gK, j9, lI, gS, lJ, kA, lK, gT, kB, n4, f_law]
noncomputable def gls : List D := []
noncomputable def prog : Prog := ⟨fns, gls⟩
noncomputable def lawId : Nat := 22
end L
namespace L
open PySem PySem.Spec PyProof.Rows L2 L2.Snd Py
def top (i : Nat) : Stmt := PySem.Challenge.pw_cordbook_k09_slid.main.body.getD i (.Pass ⟨0, 0, 0, 0⟩)
abbrev s_0 : Stmt := top 8
abbrev N_0 : List Str := (["sheet", "at"] : List Str)
abbrev P_0 : List Str := (["sheet", "at"] : List Str)
theorem sc_0 : FnScope N_0 P_0 (defScope s_0) := bF
abbrev s_1 : Stmt := top 9
abbrev N_1 : List Str := (["crossings", "place"] : List Str)
abbrev P_1 : List Str := (["crossings", "place"] : List Str)
theorem sc_1 : FnScope N_1 P_1 (defScope s_1) := bF
abbrev s_2 : Stmt := top 10
abbrev N_2 : List Str := (["place"] : List Str)
abbrev P_2 : List Str := (["place"] : List Str)
theorem sc_2 : FnScope N_2 P_2 (defScope s_2) := bF
abbrev s_3 : Stmt := top 11
abbrev N_3 : List Str := (["crossings", "rings", "numbers", "told", "crossing", "line"] : List Str)
abbrev P_3 : List Str := (["crossings", "rings"] : List Str)
theorem sc_3 : FnScope N_3 P_3 (defScope s_3) := bF
abbrev s_4 : Stmt := top 13
abbrev N_4 : List Str := (["sheet", "first", "second", "third", "told", "step", "low", "found"] : List Str)
abbrev P_4 : List Str := (["sheet", "first", "second", "third"] : List Str)
theorem sc_4 : FnScope N_4 P_4 (defScope s_4) := bF
abbrev s_5 : Stmt := top 14
abbrev N_5 : List Str := (["told", "low", "step", "over", "into", "beneath", "last", "closing"] : List Str)
abbrev P_5 : List Str := (["told", "low", "step"] : List Str)
theorem sc_5 : FnScope N_5 P_5 (defScope s_5) := bF
abbrev s_6 : Stmt := top 15
abbrev N_6 : List Str := (["crossing", "choices", "line", "end"] : List Str)
abbrev P_6 : List Str := (["crossing", "choices", "line"] : List Str)
theorem sc_6 : FnScope N_6 P_6 (defScope s_6) := bF
abbrev s_7 : Stmt := top 16
abbrev N_7 : List Str := (["crossings", "numbers", "found", "cords", "left", "one", "other", "inner"] : List Str)
abbrev P_7 : List Str := (["crossings", "numbers", "found"] : List Str)
theorem sc_7 : FnScope N_7 P_7 (defScope s_7) := bF
abbrev s_8 : Stmt := top 17
abbrev N_8 : List Str := (["crossings", "place", "line", "left", "crossing"] : List Str)
abbrev P_8 : List Str := (["crossings", "place", "line"] : List Str)
theorem sc_8 : FnScope N_8 P_8 (defScope s_8) := bF
abbrev s_9 : Stmt := top 19
abbrev N_9 : List Str := (["script", "k"] : List Str)
abbrev P_9 : List Str := (["script", "k"] : List Str)
theorem sc_9 : FnScope N_9 P_9 (defScope s_9) := bF
abbrev s_10 : Stmt := top 20
abbrev N_10 : List Str := (["script", "k"] : List Str)
abbrev P_10 : List Str := (["script", "k"] : List Str)
theorem sc_10 : FnScope N_10 P_10 (defScope s_10) := bF
abbrev s_11 : Stmt := top 21
abbrev N_11 : List Str := (["script", "start", "many", "fixed", "owner", "k", "left", "name", "at"] : List Str)
abbrev P_11 : List Str := (["script", "start", "many", "fixed"] : List Str)
theorem sc_11 : FnScope N_11 P_11 (defScope s_11) := bF
abbrev s_12 : Stmt := top 22
abbrev N_12 : List Str := (["rows", "names", "row", "name", "found"] : List Str)
abbrev P_12 : List Str := (["rows"] : List Str)
theorem sc_12 : FnScope N_12 P_12 (defScope s_12) := bF
abbrev s_13 : Stmt := top 23
abbrev N_13 : List Str := (["x"] : List Str)
abbrev P_13 : List Str := (["x"] : List Str)
theorem sc_13 : FnScope N_13 P_13 (defScope s_13) := bF
abbrev s_14 : Stmt := top 24
abbrev N_14 : List Str := (["found", "due", "k", "row", "e"] : List Str)
abbrev P_14 : List Str := (["found", "due"] : List Str)
theorem sc_14 : FnScope N_14 P_14 (defScope s_14) := bF
abbrev s_15 : Stmt := top 25
abbrev N_15 : List Str := (["marks", "which"] : List Str)
abbrev P_15 : List Str := (["marks", "which"] : List Str)
theorem sc_15 : FnScope N_15 P_15 (defScope s_15) := bF
abbrev s_16 : Stmt := top 26
abbrev N_16 : List Str := (["sheet", "first", "second", "third", "found", "marks", "e"] : List Str)
abbrev P_16 : List Str := (["sheet", "first", "second", "third"] : List Str)
theorem sc_16 : FnScope N_16 P_16 (defScope s_16) := bF
abbrev s_17 : Stmt := top 27
abbrev N_17 : List Str := (["c", "g", "h", "step", "p", "i", "j", "r", "q"] : List Str)
abbrev P_17 : List Str := (["c", "g", "h"] : List Str)
theorem sc_17 : FnScope N_17 P_17 (defScope s_17) := bF
abbrev s_18 : Stmt := top 28
abbrev N_18 : List Str := (["c", "g", "h", "parts", "p", "i", "j", "r", "q", "o", "new"] : List Str)
abbrev P_18 : List Str := (["c", "g", "h", "parts"] : List Str)
theorem sc_18 : FnScope N_18 P_18 (defScope s_18) := bF
abbrev s_19 : Stmt := top 29
abbrev N_19 : List Str := (["c", "g", "h", "ways", "step", "p", "j", "q", "one", "two"] : List Str)
abbrev P_19 : List Str := (["c", "g", "h", "ways"] : List Str)
theorem sc_19 : FnScope N_19 P_19 (defScope s_19) := bF
abbrev s_20 : Stmt := top 30
abbrev N_20 : List Str := (["script", "many", "c", "g", "left"] : List Str)
abbrev P_20 : List Str := (["script", "many"] : List Str)
theorem sc_20 : FnScope N_20 P_20 (defScope s_20) := bF
abbrev s_21 : Stmt := top 31
abbrev N_21 : List Str := (["cell", "many"] : List Str)
abbrev P_21 : List Str := (["cell", "many"] : List Str)
theorem sc_21 : FnScope N_21 P_21 (defScope s_21) := bF
abbrev s_22 : Stmt := top 32
abbrev N_22 : List Str := (["script", "many", "spots", "fixed", "rows", "sheet", "cell", "told", "parts", "new", "due", "k"] : List Str)
abbrev P_22 : List Str := (["script"] : List Str)
theorem sc_22 : FnScope N_22 P_22 (defScope s_22) := bF
def psOf : Nat → List Str
 | 0 => P_0
 | 1 => P_1
 | 2 => P_2
 | 3 => P_3
 | 4 => P_4
 | 5 => P_5
 | 6 => P_6
 | 7 => P_7
 | 8 => P_8
 | 9 => P_9
 | 10 => P_10
 | 11 => P_11
 | 12 => P_12
 | 13 => P_13
 | 14 => P_14
 | 15 => P_15
 | 16 => P_16
 | 17 => P_17
 | 18 => P_18
 | 19 => P_19
 | 20 => P_20
 | 21 => P_21
 | 22 => P_22
 | _ => []
structure Txt (K : W.Frag) (mg : Str → Option Value) (cl fa : Nat → Addr) (fd : Nat → FuncData) : Prop where
 n_bool : mg "bool" = none
 n_int : mg "int" = none
 n_isinstance : mg "isinstance" = none
 n_len : mg "len" = none
 n_list : mg "list" = none
 n_max : mg "max" = none
 n_min : mg "min" = none
 n_range : mg "range" = none
 n_set : mg "set" = none
 n_tuple : mg "tuple" = none
 m_0 : mg "crossing_at" = some (.ref (fa 0))
 k_0 : W.keepIn K (.ref (fa 0)) = true
 b_0 : Binds K (fd 0) P_0 []
 F_0 : Fun K "crossing_at" "crossing_at" s_0 (fa 0) (fd 0)
 m_1 : mg "line_at" = some (.ref (fa 1))
 k_1 : W.keepIn K (.ref (fa 1)) = true
 b_1 : Binds K (fd 1) P_1 []
 F_1 : Fun K "line_at" "line_at" s_1 (fa 1) (fd 1)
 m_2 : mg "opposite" = some (.ref (fa 2))
 k_2 : W.keepIn K (.ref (fa 2)) = true
 b_2 : Binds K (fd 2) P_2 []
 F_2 : Fun K "opposite" "opposite" s_2 (fa 2) (fd 2)
 m_3 : mg "numbered" = some (.ref (fa 3))
 k_3 : W.keepIn K (.ref (fa 3)) = true
 b_3 : Binds K (fd 3) P_3 []
 F_3 : Fun K "numbered" "numbered" s_3 (fa 3) (fd 3)
 m_4 : mg "slid" = some (.ref (fa 4))
 k_4 : W.keepIn K (.ref (fa 4)) = true
 b_4 : Binds K (fd 4) P_4 []
 F_4 : Fun K "slid" "slid" s_4 (fa 4) (fd 4)
 m_5 : mg "slide_ends" = some (.ref (fa 5))
 k_5 : W.keepIn K (.ref (fa 5)) = true
 b_5 : Binds K (fd 5) P_5 []
 F_5 : Fun K "slide_ends" "slide_ends" s_5 (fa 5) (fd 5)
 m_6 : mg "end_with" = some (.ref (fa 6))
 k_6 : W.keepIn K (.ref (fa 6)) = true
 b_6 : Binds K (fd 6) P_6 []
 F_6 : Fun K "end_with" "end_with" s_6 (fa 6) (fd 6)
 m_7 : mg "passed" = some (.ref (fa 7))
 k_7 : W.keepIn K (.ref (fa 7)) = true
 b_7 : Binds K (fd 7) P_7 []
 F_7 : Fun K "passed" "passed" s_7 (fa 7) (fd 7)
 m_8 : mg "relined" = some (.ref (fa 8))
 k_8 : W.keepIn K (.ref (fa 8)) = true
 b_8 : Binds K (fd 8) P_8 []
 F_8 : Fun K "relined" "relined" s_8 (fa 8) (fd 8)
 m_9 : mg "_law_cell_at" = some (.ref (fa 9))
 k_9 : W.keepIn K (.ref (fa 9)) = true
 b_9 : Binds K (fd 9) P_9 []
 F_9 : Fun K "_law_cell_at" "_law_cell_at" s_9 (fa 9) (fd 9)
 m_10 : mg "_law_pick" = some (.ref (fa 10))
 k_10 : W.keepIn K (.ref (fa 10)) = true
 b_10 : Binds K (fd 10) P_10 []
 F_10 : Fun K "_law_pick" "_law_pick" s_10 (fa 10) (fd 10)
 m_11 : mg "_law_rows" = some (.ref (fa 11))
 k_11 : W.keepIn K (.ref (fa 11)) = true
 b_11 : Binds K (fd 11) P_11 []
 F_11 : Fun K "_law_rows" "_law_rows" s_11 (fa 11) (fd 11)
 m_12 : mg "_law_numbered" = some (.ref (fa 12))
 k_12 : W.keepIn K (.ref (fa 12)) = true
 b_12 : Binds K (fd 12) P_12 []
 F_12 : Fun K "_law_numbered" "_law_numbered" s_12 (fa 12) (fd 12)
 m_13 : mg "_law_whole" = some (.ref (fa 13))
 k_13 : W.keepIn K (.ref (fa 13)) = true
 b_13 : Binds K (fd 13) P_13 []
 F_13 : Fun K "_law_whole" "_law_whole" s_13 (fa 13) (fd 13)
 m_14 : mg "_law_same" = some (.ref (fa 14))
 k_14 : W.keepIn K (.ref (fa 14)) = true
 b_14 : Binds K (fd 14) P_14 []
 F_14 : Fun K "_law_same" "_law_same" s_14 (fa 14) (fd 14)
 m_15 : mg "_law_refused" = some (.ref (fa 15))
 k_15 : W.keepIn K (.ref (fa 15)) = true
 b_15 : Binds K (fd 15) P_15 []
 F_15 : Fun K "_law_refused" "_law_refused" s_15 (fa 15) (fd 15)
 m_16 : mg "_law_told" = some (.ref (fa 16))
 k_16 : W.keepIn K (.ref (fa 16)) = true
 b_16 : Binds K (fd 16) P_16 []
 F_16 : Fun K "_law_told" "_law_told" s_16 (fa 16) (fd 16)
 m_17 : mg "_law_three" = some (.ref (fa 17))
 k_17 : W.keepIn K (.ref (fa 17)) = true
 b_17 : Binds K (fd 17) P_17 []
 F_17 : Fun K "_law_three" "_law_three" s_17 (fa 17) (fd 17)
 m_18 : mg "_law_slid" = some (.ref (fa 18))
 k_18 : W.keepIn K (.ref (fa 18)) = true
 b_18 : Binds K (fd 18) P_18 []
 F_18 : Fun K "_law_slid" "_law_slid" s_18 (fa 18) (fd 18)
 m_19 : mg "_law_corners" = some (.ref (fa 19))
 k_19 : W.keepIn K (.ref (fa 19)) = true
 b_19 : Binds K (fd 19) P_19 []
 F_19 : Fun K "_law_corners" "_law_corners" s_19 (fa 19) (fd 19)
 m_20 : mg "_law_spots" = some (.ref (fa 20))
 k_20 : W.keepIn K (.ref (fa 20)) = true
 b_20 : Binds K (fd 20) P_20 []
 F_20 : Fun K "_law_spots" "_law_spots" s_20 (fa 20) (fd 20)
 m_21 : mg "_law_far" = some (.ref (fa 21))
 k_21 : W.keepIn K (.ref (fa 21)) = true
 b_21 : Binds K (fd 21) P_21 []
 F_21 : Fun K "_law_far" "_law_far" s_21 (fa 21) (fd 21)
 m_22 : mg "law" = some (.ref (fa 22))
 k_22 : W.keepIn K (.ref (fa 22)) = true
 b_22 : Binds K (fd 22) P_22 []
 F_22 : Fun K "law" "law" s_22 (fa 22) (fd 22)
 c_NoPlace : mg "NoPlace" = some (.ref (cl 0))
 c_NoMove : mg "NoMove" = some (.ref (cl 1))
 c_CordError : mg "CordError" = some (.ref (cl 2))
 c_Crowded : mg "Crowded" = some (.ref (cl 3))
 c_NoSheet : mg "NoSheet" = some (.ref (cl 4))
 c_NoNote : mg "NoNote" = some (.ref (cl 5))
 x_0 : ExcCls K (cl 0)
 x_1 : ExcCls K (cl 1)
 q_0_NoPlace : W.kitOne K (.ref (cl 0)) (.ref (cl 0)) = some true
 q_1_NoPlace : W.kitOne K (.ref (cl 1)) (.ref (cl 0)) = some false
 q_0_NoSheet : W.kitOne K (.ref (cl 0)) (.ref (cl 4)) = some false
 q_1_NoSheet : W.kitOne K (.ref (cl 1)) (.ref (cl 4)) = some false
 q_0_NoMove : W.kitOne K (.ref (cl 0)) (.ref (cl 1)) = some false
 q_1_NoMove : W.kitOne K (.ref (cl 1)) (.ref (cl 1)) = some true
 q_0_Crowded : W.kitOne K (.ref (cl 0)) (.ref (cl 3)) = some false
 q_1_Crowded : W.kitOne K (.ref (cl 1)) (.ref (cl 3)) = some false
 q_0_ValueError : W.kitOne K (.ref (cl 0)) (.type "ValueError") = some true
 q_1_ValueError : W.kitOne K (.ref (cl 1)) (.type "ValueError") = some true
 n_ValueError : mg "ValueError" = none
 q_0_NoNote : W.kitOne K (.ref (cl 0)) (.ref (cl 5)) = some false
 q_1_NoNote : W.kitOne K (.ref (cl 1)) (.ref (cl 5)) = some false
 e_CordError : ∀ c ∈ ([0, 1] : List Nat), W.exmOne K (.ref (cl c)) (.ref (cl 2)) = some true
section
variable {P : Program} {w : World} {K : W.Frag} {mg : Str → Option Value} {base : Heap} {cl fa : Nat → Addr} {fd : Nat → FuncData} {j : Nat}
theorem Txt.i_Crowded (T : Txt K mg cl fa fd) {X : Cx} {XE : Nat → L2.St → Hp → Prop} {Φ : Nat → List D → R D} {G : List D} {m : Bool} {ea : Ex} {a : Expr} {p1 p2 pos : Pos} (ia : OkE X cl XE Φ G true ea a) (hK : X.K = K := by rfl) (hM : X.mg = mg := by rfl) (hg : Gl X "isinstance" := by rfl) (hg2 : Gl X "Crowded" := by rfl)
  (hs : starEach [a, .Name "Crowded" p2] X.env = [(false, eval a X.env), (false, eval (.Name "Crowded" p2) X.env)] := by rfl) : OkE X cl XE Φ G m (.op1 (.isExn [false, false]) ea) (.Call (.Name "isinstance" p1) [a, .Name "Crowded" p2] [] pos) :=
 eE (vC := (.ref (cl 3))) (uC := (.ref (cl 3))) (fun u r => r) (dJ hg2 (by rw [hM]; exact T.c_Crowded) rfl) hg (by rw [hM]; exact T.n_isinstance) (by rw [hK]; exact fun c b h => match c, b, h with | 0, _, rfl => ⟨T.x_0, T.q_0_Crowded⟩ | 1, _, rfl => ⟨T.x_1, T.q_1_Crowded⟩) ia hs
theorem Txt.i_NoMove (T : Txt K mg cl fa fd) {X : Cx} {XE : Nat → L2.St → Hp → Prop} {Φ : Nat → List D → R D} {G : List D} {m : Bool} {ea : Ex} {a : Expr} {p1 p2 pos : Pos} (ia : OkE X cl XE Φ G true ea a) (hK : X.K = K := by rfl) (hM : X.mg = mg := by rfl) (hg : Gl X "isinstance" := by rfl) (hg2 : Gl X "NoMove" := by rfl)
  (hs : starEach [a, .Name "NoMove" p2] X.env = [(false, eval a X.env), (false, eval (.Name "NoMove" p2) X.env)] := by rfl) : OkE X cl XE Φ G m (.op1 (.isExn [false, true]) ea) (.Call (.Name "isinstance" p1) [a, .Name "NoMove" p2] [] pos) :=
 eE (vC := (.ref (cl 1))) (uC := (.ref (cl 1))) (fun u r => r) (dJ hg2 (by rw [hM]; exact T.c_NoMove) rfl) hg (by rw [hM]; exact T.n_isinstance) (by rw [hK]; exact fun c b h => match c, b, h with | 0, _, rfl => ⟨T.x_0, T.q_0_NoMove⟩ | 1, _, rfl => ⟨T.x_1, T.q_1_NoMove⟩) ia hs
theorem Txt.i_NoNote (T : Txt K mg cl fa fd) {X : Cx} {XE : Nat → L2.St → Hp → Prop} {Φ : Nat → List D → R D} {G : List D} {m : Bool} {ea : Ex} {a : Expr} {p1 p2 pos : Pos} (ia : OkE X cl XE Φ G true ea a) (hK : X.K = K := by rfl) (hM : X.mg = mg := by rfl) (hg : Gl X "isinstance" := by rfl) (hg2 : Gl X "NoNote" := by rfl)
  (hs : starEach [a, .Name "NoNote" p2] X.env = [(false, eval a X.env), (false, eval (.Name "NoNote" p2) X.env)] := by rfl) : OkE X cl XE Φ G m (.op1 (.isExn [false, false]) ea) (.Call (.Name "isinstance" p1) [a, .Name "NoNote" p2] [] pos) :=
 eE (vC := (.ref (cl 5))) (uC := (.ref (cl 5))) (fun u r => r) (dJ hg2 (by rw [hM]; exact T.c_NoNote) rfl) hg (by rw [hM]; exact T.n_isinstance) (by rw [hK]; exact fun c b h => match c, b, h with | 0, _, rfl => ⟨T.x_0, T.q_0_NoNote⟩ | 1, _, rfl => ⟨T.x_1, T.q_1_NoNote⟩) ia hs
theorem Txt.i_NoPlace (T : Txt K mg cl fa fd) {X : Cx} {XE : Nat → L2.St → Hp → Prop} {Φ : Nat → List D → R D} {G : List D} {m : Bool} {ea : Ex} {a : Expr} {p1 p2 pos : Pos} (ia : OkE X cl XE Φ G true ea a) (hK : X.K = K := by rfl) (hM : X.mg = mg := by rfl) (hg : Gl X "isinstance" := by rfl) (hg2 : Gl X "NoPlace" := by rfl)
  (hs : starEach [a, .Name "NoPlace" p2] X.env = [(false, eval a X.env), (false, eval (.Name "NoPlace" p2) X.env)] := by rfl) : OkE X cl XE Φ G m (.op1 (.isExn [true, false]) ea) (.Call (.Name "isinstance" p1) [a, .Name "NoPlace" p2] [] pos) :=
 eE (vC := (.ref (cl 0))) (uC := (.ref (cl 0))) (fun u r => r) (dJ hg2 (by rw [hM]; exact T.c_NoPlace) rfl) hg (by rw [hM]; exact T.n_isinstance) (by rw [hK]; exact fun c b h => match c, b, h with | 0, _, rfl => ⟨T.x_0, T.q_0_NoPlace⟩ | 1, _, rfl => ⟨T.x_1, T.q_1_NoPlace⟩) ia hs
theorem Txt.i_NoSheet (T : Txt K mg cl fa fd) {X : Cx} {XE : Nat → L2.St → Hp → Prop} {Φ : Nat → List D → R D} {G : List D} {m : Bool} {ea : Ex} {a : Expr} {p1 p2 pos : Pos} (ia : OkE X cl XE Φ G true ea a) (hK : X.K = K := by rfl) (hM : X.mg = mg := by rfl) (hg : Gl X "isinstance" := by rfl) (hg2 : Gl X "NoSheet" := by rfl)
  (hs : starEach [a, .Name "NoSheet" p2] X.env = [(false, eval a X.env), (false, eval (.Name "NoSheet" p2) X.env)] := by rfl) : OkE X cl XE Φ G m (.op1 (.isExn [false, false]) ea) (.Call (.Name "isinstance" p1) [a, .Name "NoSheet" p2] [] pos) :=
 eE (vC := (.ref (cl 4))) (uC := (.ref (cl 4))) (fun u r => r) (dJ hg2 (by rw [hM]; exact T.c_NoSheet) rfl) hg (by rw [hM]; exact T.n_isinstance) (by rw [hK]; exact fun c b h => match c, b, h with | 0, _, rfl => ⟨T.x_0, T.q_0_NoSheet⟩ | 1, _, rfl => ⟨T.x_1, T.q_1_NoSheet⟩) ia hs
theorem Txt.i_ValueError (T : Txt K mg cl fa fd) {X : Cx} {XE : Nat → L2.St → Hp → Prop} {Φ : Nat → List D → R D} {G : List D} {m : Bool} {ea : Ex} {a : Expr} {p1 p2 pos : Pos} (ia : OkE X cl XE Φ G true ea a) (hK : X.K = K := by rfl) (hM : X.mg = mg := by rfl) (hg : Gl X "isinstance" := by rfl) (hg2 : Gl X "ValueError" := by rfl)
  (hs : starEach [a, .Name "ValueError" p2] X.env = [(false, eval a X.env), (false, eval (.Name "ValueError" p2) X.env)] := by rfl) : OkE X cl XE Φ G m (.op1 (.isExn [true, true]) ea) (.Call (.Name "isinstance" p1) [a, .Name "ValueError" p2] [] pos) :=
 eE (vC := (.ty "ValueError")) (uC := (.type "ValueError")) (fun u r => r) (lQ hg2 (by rw [hM]; exact T.n_ValueError) eU rfl) hg (by rw [hM]; exact T.n_isinstance) (by rw [hK]; exact fun c b h => match c, b, h with | 0, _, rfl => ⟨T.x_0, T.q_0_ValueError⟩ | 1, _, rfl => ⟨T.x_1, T.q_1_ValueError⟩) ia hs
def xn : Nat → Str
 | 0 => "NoPlace"
 | 1 => "NoMove"
 | _ => ""
abbrev bmV : List Value := [.type "ValueError", .type "Exception", .type "BaseException", .type "object"]
abbrev Cs (P : Program) (w : World) (K : W.Frag) (mg : Str → Option Value) (base : Heap) (cl fa : Nat → Addr) (fd : Nat → FuncData) (j : Nat) : Prop := ∀ i, i < 23 → FnOk P w K mg base (CXE P w) (j + 1) (fa i) (fd i) (psOf i) (spOf K cl (Phi prog j) i)
abbrev Os (mg : Str → Option Value) (base : Heap) (cl : Nat → Addr) : Prop := ∀ c, c < 2 → OwnCls (xn c) (cl c) bmV "ValueError.__new__" mg base
abbrev Rm (j : Nat) (A : Around) (x : Str) (st : Stmt) (s : Shared) (a : Addr) (cd : Value) : Prop := Room (j + 1) (A.deeper (envOfC x (defScope st) s.heap.objs.size a cd))
abbrev Ob (P : Program) (w : World) (K : W.Frag) (mg : Str → Option Value) (base : Heap) (cl : Nat → Addr) (j : Nat) (N : List Str) (x : Str) (st : Stmt) (a : Addr) (cd : Value) (A : Around) (outer : List Env) (s : Shared) (H : Hp) (E : XK) (b : List Sm) : Prop := OkSs (cxE P w K mg base N x (defScope st) a cd A outer s H E) cl (fun c _ H' => E (.ref (cl c)) none H') (Phi prog j) prog.gls 1000 b (defBody st)
abbrev OB (i : Nat) (x : Str) (st : Stmt) (N : List Str) (b : List Sm) : Prop := ∀ {P : Program} {w : World} {K : W.Frag} {mg : Str → Option Value} {base : Heap} {cl fa : Nat → Addr} {fd : Nat → FuncData} {j : Nat}, Txt K mg cl fa fd → Cs P w K mg base cl fa fd j → Os mg base cl → ∀ (cd : Value) (A : Around) (outer : List Env) (s : Shared) (H : Hp) (E : XK), Rm j A x st s (fa i) cd → Ob P w K mg base cl j N x st (fa i) cd A outer s H E b
set_option maxHeartbeats 0
theorem ok_0 : OB 0 "crossing_at" s_0 N_0 dB := fun {P w K mg base cl fa fd j} T C O cd A outer s H E hr =>
 have hu := aR hr
 have nd := sc_0.nd
 (aB (aU (OkW.t (cC (t_cm (c_lt aA aC)) (cJ (t_cm (c_ge aA (cN T.n_len (x_at aA aC))))))) (aB (iT aM (O 0 (by decide)) PySem.F.excBase_ValueError (by decide) PySem.F.excBase_ValueError)
  aE) aE)
  (aB (aH (x_at (x_at aA aC) aA))
  aE))
theorem ok_1 : OB 1 "line_at" s_1 N_1 cT := fun {P w K mg base cl fa fd j} T C O cd A outer s H E hr =>
 have hu := aR hr
 have nd := sc_1.nd
 (aB (aH (x_at (x_at aA (x_at aA aC)) (x_at aA aC)))
  aE)
theorem ok_2 : OB 2 "opposite" s_2 N_2 cM := fun {P w K mg base cl fa fd j} T C O cd A outer s H E hr =>
 have hu := aR hr
 have nd := sc_2.nd
 (aB (aH (aY (aD (x_at aA aC) (aD (aN (aK (x_at aA aC) aC) aC) aF))))
  aE)
theorem ok_3 : OB 3 "numbered" s_3 N_3 gH := fun {P w K mg base cl fa fd j} T C O cd A outer s H E hr =>
 have hu := aR hr
 have nd := sc_3.nd
 (aB (s_new nd)
  (aB (aJ nd (bH aF))
  (aB (bE (bI aA) (bD nd) (aB (bE (bI aA) (bD nd) (aB (aU (t_cm (c_din true hu aA aA)) (aB (s_dput hu (x_dlen T.n_len aA) aA)
  aE) aE)
  aE))
  (aB (pS (b9 T.n_tuple (iS (["line", "numbers"] : List Str) (bL (by rfl)) (bI aA) (fun _ _ _ _ _ => bD (show (["line", "numbers"] : List Str).Nodup from by decide +kernel)) (fun _ _ _ _ _ => dZ) (fun _ _ _ _ _ => (x_dget hu aA aA)))))
  aE)))
  (aB (aH (aY (aD (b9 T.n_tuple aA) (aD aA aF))))
  aE))))
theorem ok_4 : OB 4 "slid" s_4 N_4 i4 := fun {P w K mg base cl fa fd j} T C O cd A outer s H E hr =>
 have hu := aR hr
 have nd := sc_4.nd
 (aB (s_mapx (["at", "sheet"] : List Str) (bL (by rfl)) nd tog_def (bI (aY (aD aA (aD aA (aD aA aF))))) (fun _ _ _ _ _ _ => bD (show (["at", "sheet"] : List Str).Nodup from by decide +kernel)) (fun _ _ _ _ _ _ hE => (aI (C 0 (by decide)) hr T.m_0 T.k_0 (T.b_0) (pass_c hE) (aD aA (aD aA aF)))))
  (aB (aU (OkW.t (cC (t_cm (c_eq hu aA aA)) (cC (t_cm (c_eq hu aA aA)) (cJ (t_cm (c_eq hu aA aA)))))) (aB (iT aM (O 1 (by decide)) PySem.F.excBase_ValueError (by decide) PySem.F.excBase_ValueError)
  aE) aE)
  (aB (bE (bI (aY (aD aC (aD aC aF)))) (bD nd) (aB (bE (bI (aY (aD aC (aD aC aF)))) (bD nd) (aB (aJ nd (aI (C 5 (by decide)) hr T.m_5 T.k_5 (T.b_5) (fun _ => aP) (aD aA (aD aA (aD aA aF)))))
  (aB (aU (t_cm (c_isNN aA)) (aB (aH (aI (C 3 (by decide)) hr T.m_3 T.k_3 (T.b_3) (fun _ => aP) (aD (aI (C 7 (by decide)) hr T.m_7 T.k_7 (T.b_7) (fun _ => aP) (aD (x_at aA aC) (aD (aY (aD aA (aD aA (aD aA aF)))) (aD aA aF)))) (aD (x_at aA aC) aF))))
  aE) aE)
  aE)))
  aE))
  (aB (iT aM (O 1 (by decide)) PySem.F.excBase_ValueError (by decide) PySem.F.excBase_ValueError)
  aE))))
theorem ok_5 : OB 5 "slide_ends" s_5 N_5 bU := fun {P w K mg base cl fa fd j} T C O cd A outer s H E hr =>
 have hu := aR hr
 have nd := sc_5.nd
 (aB (aJ nd (aN (aK aA aA) aC))
  (aB (aJ nd (aI (C 6 (by decide)) hr T.m_6 T.k_6 (T.b_6) (aS rfl aM) (aD (x_at aA aC) (aD (aY (aD aC (aD aC aF))) (aD (x_at (x_at aA aC) aA) aF)))))
  (aB (aU (t_cm (c_isN aA)) (aB (aH fJ)
  aE) aE)
  (aB (aJ nd (aN (aK aA aA) aC))
  (aB (aJ nd (aI (C 6 (by decide)) hr T.m_6 T.k_6 (T.b_6) (aS rfl aM) (aD (x_at aA aC) (aD (aY (aD aC (aD aC aF))) (aD (x_at (x_at aA aC) aA) aF)))))
  (aB (aU (t_cm (c_isN aA)) (aB (aH fJ)
  aE) aE)
  (aB (aJ nd (aN (aK aA aA) aC))
  (aB (aU (t_cm (c_ne hu (x_at (x_at aA aC) aA) (x_at (x_at aA aC) aA))) (aB (aH fJ)
  aE) aE)
  (aB (aH (aY (aD (aY (aD aA (aD aA aF))) (aD (aY (aD aA (aD aA aF))) (aD (aY (aD aA (aD aA aF))) aF)))))
  aE)))))))))
theorem ok_6 : OB 6 "end_with" s_6 N_6 bN := fun {P w K mg base cl fa fd j} T C O cd A outer s H E hr =>
 have hu := aR hr
 have nd := sc_6.nd
 (aB (bE (bI aA) (bD nd) (aB (aU (t_cm (c_eq hu (x_at aA aA) aA)) (aB (aH aA)
  aE) aE)
  aE))
  (aB (aH fJ)
  aE))
theorem ok_7 : OB 7 "passed" s_7 N_7 d5 := fun {P w K mg base cl fa fd j} T C O cd A outer s H E hr =>
 have hu := aR hr
 have nd := sc_7.nd
 (aB (aJ nd (aY (aD (aY (aD (aY (aD (x_at aA aC) (aD (x_at (x_at aA aC) aC) aF))) (aD (aY (aD (x_at aA aC) (aD (x_at (x_at aA aC) aC) aF))) aF))) (aD (aY (aD (aY (aD (x_at aA aC) (aD (x_at (x_at aA aC) aC) aF))) (aD (aY (aD (x_at aA aC) (aD (x_at (x_at aA aC) aC) aF))) aF))) (aD (aY (aD (aY (aD (x_at aA aC) (aD (x_at (x_at aA aC) aC) aF))) (aD (aY (aD (x_at aA aC) (aD (x_at (x_at aA aC) aC) aF))) aF))) aF)))))
  (aB (aJ nd (kS T.n_list aA))
  (aB (bE (bI aA) (g_two nd) (aB (aJ nd (aI (C 1 (by decide)) hr T.m_1 T.k_1 (T.b_1) (fun _ => aP) (aD aA (aD aA aF))))
  (aB (aJ nd (aI (C 8 (by decide)) hr T.m_8 T.k_8 (T.b_8) (fun _ => aP) (aD aA (aD aA (aD (aI (C 1 (by decide)) hr T.m_1 T.k_1 (T.b_1) (fun _ => aP) (aD aA (aD (aI (C 2 (by decide)) hr T.m_2 T.k_2 (T.b_2) (fun _ => aP) (aD aA aF)) aF))) aF)))))
  (aB (aJ nd (aI (C 8 (by decide)) hr T.m_8 T.k_8 (T.b_8) (fun _ => aP) (aD aA (aD aA (aD (aI (C 1 (by decide)) hr T.m_1 T.k_1 (T.b_1) (fun _ => aP) (aD aA (aD (aI (C 2 (by decide)) hr T.m_2 T.k_2 (T.b_2) (fun _ => aP) (aD aA aF)) aF))) aF)))))
  (aB (aJ nd (aI (C 8 (by decide)) hr T.m_8 T.k_8 (T.b_8) (fun _ => aP) (aD aA (aD (aI (C 2 (by decide)) hr T.m_2 T.k_2 (T.b_2) (fun _ => aP) (aD aA aF)) (aD aA aF)))))
  (aB (aJ nd (aI (C 8 (by decide)) hr T.m_8 T.k_8 (T.b_8) (fun _ => aP) (aD aA (aD (aI (C 2 (by decide)) hr T.m_2 T.k_2 (T.b_2) (fun _ => aP) (aD aA aF)) (aD aA aF)))))
  aE))))))
  (aB (aH aA)
  aE))))
theorem ok_8 : OB 8 "relined" s_8 N_8 iC := fun {P w K mg base cl fa fd j} T C O cd A outer s H E hr =>
 have hu := aR hr
 have nd := sc_8.nd
 (aB (aJ nd (kS T.n_list aA))
  (aB (aJ nd (x_at aA (x_at aA aC)))
  (aB (fU (aK (aK (fP aA fO (b5 (x_at aA aC))) (aY (aD aA aF))) (fP aA (b5 (aK (x_at aA aC) aC)) fO)) (x_at aA aC))
  (aB (aH aA)
  aE))))
theorem ok_9 : OB 9 "_law_cell_at" s_9 N_9 dC := fun {P w K mg base cl fa fd j} T C O cd A outer s H E hr =>
 have hu := aR hr
 have nd := sc_9.nd
 (aB (aU (t_cm (c_lt aA (cN T.n_len aA))) (aB (aH (x_at aA aA))
  aE) aE)
  (aB (aH aC)
  aE))
theorem ok_10 : OB 10 "_law_pick" s_10 N_10 gI := fun {P w K mg base cl fa fd j} T C O cd A outer s H E hr =>
 have hu := aR hr
 have nd := sc_10.nd
 (aB (aU (t_cm (c_lt aA (cN T.n_len aA))) (aB (aH (x_at aA aA))
  aE) aE)
  (aB (aH (b6 (aN (bT (aK (aK (aI (C 9 (by decide)) hr T.m_9 T.k_9 (T.b_9) (aS rfl aM) (aD aA (aD aC aF))) (bT aC aA)) aC) aC) aC) aC))
  aE))
theorem ok_11 : OB 11 "_law_rows" s_11 N_11 gJ := fun {P w K mg base cl fa fd j} T C O cd A outer s H E hr =>
 have hu := aR hr
 have nd := sc_11.nd
 (aB (aJ nd (iS (["k"] : List Str) (bL (by rfl)) (eP T.n_range (bT aC aA)) (fun _ _ _ _ _ => bD (show (["k"] : List Str).Nodup from by decide +kernel)) (fun _ _ _ _ _ => dZ) (fun _ _ _ _ _ => (x_neg aC))))
  (aB (bE (eP T.n_range (cN T.n_len aA)) (bD nd) (aB (fU aA (x_at (x_at aA aA) aC))
  (aB (fU aA (x_at (x_at aA aA) aC))
  aE)))
  (aB (pR (["k", "owner"] : List Str) (bL (by rfl)) nd (eP T.n_range (bT aC aA)) (fun _ _ _ _ _ => bD (show (["k", "owner"] : List Str).Nodup from by decide +kernel)) (fun _ _ _ _ _ => (jN (t_cm (c_lt (x_at aA aA) aC)))) (fun _ _ _ _ _ => aA))
  (aB (aJ nd (cN T.n_len aA))
  (aB (nE (t_cm (c_gt (cN T.n_len aA) aC)) (aB (aJ nd (aK aC (aN (aI (C 10 (by decide)) hr T.m_10 T.k_10 (T.b_10) (fun _ => aP) (aD aA (aD (aK aA aA) aF))) (fS (cN T.n_len aA) aC))))
  (aB (fU aA (x_at aA aC))
  (aB (fU aA (x_at aA aA))
  (aB (aJ nd (aK (fP aA (b5 aC) (b5 aA)) (fP aA (b5 (aK aA aC)) fO)))
  (aB (aJ nd (aK aA aC))
  aE))))))
  (aB (aH (iS (["k", "owner"] : List Str) (bL (by rfl)) (eP T.n_range aA) (fun _ _ _ _ _ => bD (show (["k", "owner"] : List Str).Nodup from by decide +kernel)) (fun _ _ _ _ _ => dZ) (fun _ _ _ _ _ => (b9 T.n_tuple (fP aA (b5 (bT aC aA)) (b5 (aK (bT aC aA) aC)))))))
  aE))))))
theorem ok_12 : OB 12 "_law_numbered" s_12 N_12 cR := fun {P w K mg base cl fa fd j} T C O cd A outer s H E hr =>
 have hu := aR hr
 have nd := sc_12.nd
 (aB (aJ nd (bH aF))
  (aB (bE (bI aA) (bD nd) (aB (bE (bI aA) (bD nd) (aB (aU (t_cm (c_nin aA aA)) (aB (pS aA)
  aE) aE)
  aE))
  aE))
  (aB (aJ nd (bH aF))
  (aB (bE (bI aA) (bD nd) (aB (pS (b9 T.n_tuple (iS (["name", "names"] : List Str) (bL (by rfl)) (bI aA) (fun _ _ _ _ _ => bD (show (["name", "names"] : List Str).Nodup from by decide +kernel)) (fun _ _ _ _ _ => dZ) (fun _ _ _ _ _ => (x_index aA aA)))))
  aE))
  (aB (aH (b9 T.n_tuple aA))
  aE)))))
theorem ok_13 : OB 13 "_law_whole" s_13 N_13 eS := fun {P w K mg base cl fa fd j} T C O cd A outer s H E hr =>
 have hu := aR hr
 have nd := sc_13.nd
 (aB (aH (pB (x_isInt T.n_isinstance T.n_int aA) (pA (ok_not (pQ T.n_isinstance T.n_bool aA)))))
  aE)
theorem ok_14 : OB 14 "_law_same" s_14 N_14 gL := fun {P w K mg base cl fa fd j} T C O cd A outer s H E hr =>
 have hu := aR hr
 have nd := sc_14.nd
 (aB (aU (OkW.t (cC (dY (fT (iR T.n_isinstance T.n_tuple aA))) (cC (t_cm (c_ne hu (cN T.n_len aA) aC)) (cJ (dY (fT (iR T.n_isinstance T.n_tuple (x_at aA aC)))))))) (aB (aH g6)
  aE) aE)
  (aB (aU (OkW.t (cC (dY (fT (aI (C 13 (by decide)) hr T.m_13 T.k_13 (T.b_13) (aS rfl aM) (aD (x_at aA aC) aF)))) (cC (t_cm (c_ne hu (x_at aA aC) (x_at aA aC))) (cJ (t_cm (c_ne hu (cN T.n_len (x_at aA aC)) (cN T.n_len (x_at aA aC)))))))) (aB (aH g6)
  aE) aE)
  (aB (bE (eP T.n_range (cN T.n_len (x_at aA aC))) (bD nd) (aB (aJ nd (x_at (x_at aA aC) aA))
  (aB (aU (OkW.t (cC (dY (fT (iR T.n_isinstance T.n_tuple aA))) (cJ (t_cm (c_ne hu (cN T.n_len aA) aC))))) (aB (aH g6)
  aE) aE)
  (aB (bE (eP T.n_range aC) (bD nd) (aB (aU (OkW.t (cC (dY (fT (aI (C 13 (by decide)) hr T.m_13 T.k_13 (T.b_13) (fun _ => aP) (aD (x_at aA aA) aF)))) (cJ (t_cm (c_ne hu (x_at aA aA) (x_at (x_at (x_at aA aC) aA) aA)))))) (aB (aH g6)
  aE) aE)
  aE))
  aE))))
  (aB (aH g6)
  aE))))
theorem ok_15 : OB 15 "_law_refused" s_15 N_15 dD := fun {P w K mg base cl fa fd j} T C O cd A outer s H E hr =>
 have hu := aR hr
 have nd := sc_15.nd
 (aB (aH (x_cm (c_eq hu aA (bH (aD (x_cm (c_eq hu aA aC)) (aD (x_cm (c_eq hu aA aC)) (aD (x_cm (c_eq hu aA aC)) (aD (x_cm (c_eq hu aA aC)) (aD (x_cm (c_eq hu aA aC)) (aD g6 aF))))))))))
  aE)
theorem ok_16 : OB 16 "_law_told" s_16 N_16 b8 := fun {P w K mg base cl fa fd j} T C O cd A outer s H E hr =>
 have hu := aR hr
 have nd := sc_16.nd
 (aB (aJ nd fJ)
  (aB (aJ nd (bH aF))
  (aB (s_tryAs T.c_CordError nd T.e_CordError (fun _ _ => (aB (aJ nd (aI (C 4 (by decide)) hr T.m_4 T.k_4 (T.b_4) (aS rfl tox_try) (aD aA (aD aA (aD aA (aD aA aF))))))
  aE)) (fun _ => (aB (aJ nd (bH (aD (T.i_Crowded aA) (aD (T.i_NoSheet aA) (aD (T.i_NoPlace aA) aF)))))
  (aB (aJ nd (aK aA (bH (aD (T.i_NoMove aA) (aD (T.i_NoNote aA) (aD (T.i_ValueError aA) aF))))))
  aE))))
  (aB (aH (aY (aD aA (aD aA aF))))
  aE))))
theorem ok_17 : OB 17 "_law_three" s_17 N_17 cA := fun {P w K mg base cl fa fd j} T C O cd A outer s H E hr =>
 have hu := aR hr
 have nd := sc_17.nd
 (aB (bE (bI (bH (aD aC (aD aC aF)))) (bD nd) (aB (bE (bI (bH (aD aC (aD aC aF)))) (bD nd) (aB (aJ nd (aN (aK aA aA) aC))
  (aB (bE (bI (bH (aD aC (aD aC aF)))) (bD nd) (aB (aJ nd (aN (aK aA aA) aC))
  (aB (bE (bI (bH (aD aC (aD aC aF)))) (bD nd) (aB (aU (OkW.t (iQ (t_cm (c_eq hu (x_at aA aA) (x_at aA aA))) (iQ (t_cm (c_eq hu (x_at aA aA) (x_at aA aA))) (jM (t_cm (c_eq hu (x_at aA (aN (aK aA aA) aC)) (x_at aA aA))))))) (aB (aH (bH (aD aA (aD aA (aD aA (aD aA (aD aA (aD (aN (aK aA aA) aC) aF))))))))
  aE) aE)
  aE))
  aE)))
  aE)))
  aE))
  (aB (aH (bH aF))
  aE))
theorem ok_18 : OB 18 "_law_slid" s_18 N_18 gM := fun {P w K mg base cl fa fd j} T C O cd A outer s H E hr =>
 have hu := aR hr
 have nd := sc_18.nd
 (aB (aJ nd (x_at aA aC))
  (aB (aJ nd (x_at aA aC))
  (aB (aJ nd (x_at aA aC))
  (aB (aJ nd (x_at aA aC))
  (aB (aJ nd (x_at aA aC))
  (aB (aJ nd (x_at aA aC))
  (pW nd (iU (Φ := Phi prog j) (G := prog.gls) T.n_list aA (iU (Φ := Phi prog j) (G := prog.gls) T.n_list aA (iU (Φ := Phi prog j) (G := prog.gls) T.n_list aA cp_nil)))
  (bR (x_at aA aA) (aN (aK aA aC) aC)
  (bR (x_at aA (aN (aK aA aC) aC)) aA
  (bR (x_at aA aA) (aN (aK aA aC) aC)
  (bR (x_at aA (aN (aK aA aC) aC)) aA
  (bR (x_at aA (aN (aK aA aC) aC)) aA
  (bR (x_at aA aA) (aN (aK aA aC) aC)
  (bR (x_at aA aA) (aN (aK aA aC) aC)
  (bR (x_at aA (aN (aK aA aC) aC)) aA
  (bR (x_at aA (aN (aK aA aC) aC)) aA
  (bR (x_at aA aA) (aN (aK aA aC) aC)
  (bR (x_at aA (aN (aK aA aC) aC)) aA
  (bR (x_at aA aA) (aN (aK aA aC) aC)
  (oks_n0 (aB (aH (bH (aD (b9 T.n_tuple (x_at aA aC)) (aD (b9 T.n_tuple (x_at aA aC)) (aD (b9 T.n_tuple (x_at aA aC)) aF)))))
  aE)))))))))))))))))))))
theorem ok_19 : OB 19 "_law_corners" s_19 N_19 bQ := fun {P w K mg base cl fa fd j} T C O cd A outer s H E hr =>
 have hu := aR hr
 have nd := sc_19.nd
 (aB (aJ nd (aK aC (bT aC (aN aA aC))))
  (aB (aJ nd (bT aC (aN (b6 aA aC) aC)))
  (aB (aJ nd (aK aC (bT aC (aN (b6 aA aC) aC))))
  (aB (aJ nd (bT aC (aN (b6 aA aC) aC)))
  (aB (aJ nd (aY (aD (aK (bT aC aA) (aN (aK aA aA) aC)) (aD (aK (bT aC aA) aA) aF))))
  (aB (aJ nd (aY (aD (aK (bT aC aA) (aN (aK aA aA) aC)) (aD (aK (bT aC aA) aA) aF))))
  (aB (aH (bH (aD aA (aD aA (aD (aY (aD (aK (bT aC aA) (aN (aK aA aA) aC)) (aD (aK (bT aC aA) aA) aF))) aF)))))
  aE)))))))
theorem ok_20 : OB 20 "_law_spots" s_20 N_20 cB := fun {P w K mg base cl fa fd j} T C O cd A outer s H E hr =>
 have hu := aR hr
 have nd := sc_20.nd
 (aB (aJ nd (aN (aI (C 9 (by decide)) hr T.m_9 T.k_9 (T.b_9) (aS rfl aM) (aD aA (aD aC aF))) aA))
  (aB (aJ nd (aN (aK (aK aA aC) (aN (aI (C 9 (by decide)) hr T.m_9 T.k_9 (T.b_9) (aS rfl aM) (aD aA (aD aC aF))) (fS aA aC))) aA))
  (aB (pR (["k", "c", "g"] : List Str) (bL (by rfl)) nd (eP T.n_range aA) (fun _ _ _ _ _ => bD (show (["k", "c", "g"] : List Str).Nodup from by decide +kernel)) (fun _ _ _ _ _ => (jN (OkW.t (iQ (t_cm (c_ne hu aA aA)) (jM (t_cm (c_ne hu aA aA))))))) (fun _ _ _ _ _ => aA))
  (aB (aH (bH (aD aA (aD aA (aD (x_at aA (aN (aI (C 9 (by decide)) hr T.m_9 T.k_9 (T.b_9) (aS rfl aM) (aD aA (aD aC aF))) (fS aA aC))) aF)))))
  aE))))
theorem ok_21 : OB 21 "_law_far" s_21 N_21 cU := fun {P w K mg base cl fa fd j} T C O cd A outer s H E hr =>
 have hu := aR hr
 have nd := sc_21.nd
 (aB (aU (t_cm (c_eq hu (aN aA aC) aC)) (aB (aH (aK aA (aN (b6 aA aC) (x_pow aC aC))))
  aE) aE)
  (aB (aH (fS (x_neg aC) (aN (b6 aA aC) (x_pow aC aC))))
  aE))
theorem ok_22 : OB 22 "law" s_22 N_22 mJ := fun {P w K mg base cl fa fd j} T C O cd A outer s H E hr =>
 have hu := aR hr
 have nd := sc_22.nd
 (aB (aJ nd (aK aC (aN (aI (C 9 (by decide)) hr T.m_9 T.k_9 (T.b_9) (aS rfl aM) (aD aA (aD aC aF))) aC)))
  (aB (aJ nd (aI (C 20 (by decide)) hr T.m_20 T.k_20 (T.b_20) (aS rfl aM) (aD aA (aD aA aF))))
  (aB (aJ nd (bH aF))
  (aB (aU (t_cm (c_gt (aN (aI (C 9 (by decide)) hr T.m_9 T.k_9 (T.b_9) (aS rfl aM) (aD aA (aD aC aF))) aC) aC)) (aB (aJ nd (aI (C 19 (by decide)) hr T.m_19 T.k_19 (T.b_19) (aS rfl aM) (aD (x_at aA aC) (aD (x_at aA aC) (aD (x_at aA aC) (aD (aN (aI (C 9 (by decide)) hr T.m_9 T.k_9 (T.b_9) (aS rfl aM) (aD aA (aD aC aF))) aC) aF))))))
  aE) aE)
  (aB (aJ nd (aI (C 12 (by decide)) hr T.m_12 T.k_12 (T.b_12) (aS rfl aM) (aD (aI (C 11 (by decide)) hr T.m_11 T.k_11 (T.b_11) (aS rfl aM) (aD aA (aD aC (aD aA (aD aA aF))))) aF)))
  (aB (aJ nd (aY (aD aA (aD (aN (aI (C 9 (by decide)) hr T.m_9 T.k_9 (T.b_9) (aS rfl aM) (aD aA (aD aC aF))) aC) aF))))
  (aB (aU (t_cm (c_eq hu (aN (aI (C 9 (by decide)) hr T.m_9 T.k_9 (T.b_9) (aS rfl aM) (aD aA (aD aC aF))) aC) aC)) (aB (aJ nd (bH (aD (x_at aA aC) (aD (x_at aA aC) (aD (x_at aA aC) aF)))))
  aE) aE)
  (aB (aU (t_cm (c_eq hu (aN (aI (C 9 (by decide)) hr T.m_9 T.k_9 (T.b_9) (aS rfl aM) (aD aA (aD aC aF))) aC) aC)) (aB (aJ nd (aI (C 9 (by decide)) hr T.m_9 T.k_9 (T.b_9) (aS rfl aM) (aD aA (aD aC aF))))
  (aB (aJ nd (bH (aD (fS (aN aA (aK aA aC)) aC) (aD (fS (aN (b6 aA aC) (aK aA aC)) aC) (aD (fS (aN (b6 aA aC) (aK aA aC)) aC) aF)))))
  (aB (aU (t_cm (c_eq hu (aN (b6 aA aC) aC) aC)) (aB (fU (aI (C 21 (by decide)) hr T.m_21 T.k_21 (T.b_21) (aS rfl aM) (aD (b6 aA aC) (aD aA aF))) (aN (b6 aA aC) aC))
  aE) aE)
  aE))) aE)
  (aB (aJ nd (aI (C 16 (by decide)) hr T.m_16 T.k_16 (T.b_16) (aS rfl aM) (aD aA (aD (x_at aA aC) (aD (x_at aA aC) (aD (x_at aA aC) aF))))))
  (aB (aU (OkW.t (cC (t_cm (c_lt (x_minL T.n_min aA) aC)) (cJ (t_cm (c_ge (x_maxL T.n_max aA) aA))))) (aB (aH (aI (C 15 (by decide)) hr T.m_15 T.k_15 (T.b_15) (aS rfl aM) (aD (x_at aA aC) (aD aC aF))))
  aE) aE)
  (aB (aJ nd (bH aF))
  (aB (aU (t_cm (c_eq hu (x_nset T.n_len T.n_set aA) aC)) (aB (aJ nd (aI (C 17 (by decide)) hr T.m_17 T.k_17 (T.b_17) (aS rfl aM) (aD (x_at aA (x_at aA aC)) (aD (x_at aA (x_at aA aC)) (aD (x_at aA (x_at aA aC)) aF)))))
  aE) aE)
  (aB (aU (t_cm (c_eq hu aA (bH aF))) (aB (aH (aI (C 15 (by decide)) hr T.m_15 T.k_15 (T.b_15) (aS rfl aM) (aD (x_at aA aC) (aD aC aF))))
  aE) aE)
  (aB (aJ nd (aI (C 18 (by decide)) hr T.m_18 T.k_18 (T.b_18) (aS rfl aM) (aD (x_at aA (x_at aA aC)) (aD (x_at aA (x_at aA aC)) (aD (x_at aA (x_at aA aC)) (aD aA aF))))))
  (aB (aJ nd (kS T.n_list aA))
  (aB (bE (eP T.n_range aC) (bD nd) (aB (fU (x_at aA aA) (x_at aA aA))
  aE))
  (aB (aH (pB (x_cm (c_eq hu (x_at aA aC) (bH aF))) (pA (aI (C 14 (by decide)) hr T.m_14 T.k_14 (T.b_14) (aS rfl aM) (aD (x_at aA aC) (aD (aY (aD (aI (C 12 (by decide)) hr T.m_12 T.k_12 (T.b_12) (aS rfl aM) (aD aA aF)) (aD (x_at aA aC) aF))) aF))))))
  aE)))))))))))))))))
theorem qF (T : Txt K mg cl fa fd) (O : ∀ c, c < 2 → OwnCls (xn c) (cl c) bmV "ValueError.__new__" mg base) : ∀ j i, i < 23 → FnOk P w K mg base (CXE P w) (j + 1) (fa i) (fd i) (psOf i) (spOf K cl (Phi prog j) i)
 | 0, i, _ => pO
 | j + 1, i, hi => by
  have C := qF T O j
  match i, hi with
  | 0, _ => exact aW T.F_0 sc_0 rfl rfl rfl (ok_0 T C O)
  | 1, _ => exact aW T.F_1 sc_1 rfl rfl rfl (ok_1 T C O)
  | 2, _ => exact aW T.F_2 sc_2 rfl rfl rfl (ok_2 T C O)
  | 3, _ => exact aW T.F_3 sc_3 rfl rfl rfl (ok_3 T C O)
  | 4, _ => exact aW T.F_4 sc_4 rfl rfl rfl (ok_4 T C O)
  | 5, _ => exact aW T.F_5 sc_5 rfl rfl rfl (ok_5 T C O)
  | 6, _ => exact aW T.F_6 sc_6 rfl rfl rfl (ok_6 T C O)
  | 7, _ => exact aW T.F_7 sc_7 rfl rfl rfl (ok_7 T C O)
  | 8, _ => exact aW T.F_8 sc_8 rfl rfl rfl (ok_8 T C O)
  | 9, _ => exact aW T.F_9 sc_9 rfl rfl rfl (ok_9 T C O)
  | 10, _ => exact aW T.F_10 sc_10 rfl rfl rfl (ok_10 T C O)
  | 11, _ => exact aW T.F_11 sc_11 rfl rfl rfl (ok_11 T C O)
  | 12, _ => exact aW T.F_12 sc_12 rfl rfl rfl (ok_12 T C O)
  | 13, _ => exact aW T.F_13 sc_13 rfl rfl rfl (ok_13 T C O)
  | 14, _ => exact aW T.F_14 sc_14 rfl rfl rfl (ok_14 T C O)
  | 15, _ => exact aW T.F_15 sc_15 rfl rfl rfl (ok_15 T C O)
  | 16, _ => exact aW T.F_16 sc_16 rfl rfl rfl (ok_16 T C O)
  | 17, _ => exact aW T.F_17 sc_17 rfl rfl rfl (ok_17 T C O)
  | 18, _ => exact aW T.F_18 sc_18 rfl rfl rfl (ok_18 T C O)
  | 19, _ => exact aW T.F_19 sc_19 rfl rfl rfl (ok_19 T C O)
  | 20, _ => exact aW T.F_20 sc_20 rfl rfl rfl (ok_20 T C O)
  | 21, _ => exact aW T.F_21 sc_21 rfl rfl rfl (ok_21 T C O)
  | 22, _ => exact aW T.F_22 sc_22 rfl rfl rfl (ok_22 T C O)
  | n + 23, h => exact absurd h (by omega)
end
abbrev FN (x : Str) (st : Stmt) (kV dc pm : Value) (an : Option Addr) (cd ct : Value) : FuncData := W.fnOf x x (defArgs st) (defBody st) (defScope st) .none kV dc pm an cd ct
set_option maxHeartbeats 0 in
theorem all_mk {l : W.OpenLaw} {w : World} {K : W.Frag} {h : Heap} {mg mb : Str → Option Value} {mean : ExcName → Option Value} {q : Program} {loose : List Str} {faL : Addr} {f0 f1 f2 f3 f4 f5 f6 f7 f8 f9 f10 f11 f12 f13 f14 f15 f16 f17 f18 f19 f20 f21 f22 : Addr} {C0 C1 C2 C3 C4 C5 : Addr} {od0 an0 : Option Addr} {sl0 : Array (Option Value)} {oc0 kV0 dc0 pm0 cd0 ct0 : Value} {od1 an1 : Option Addr} {sl1 : Array (Option Value)} {oc1 kV1 dc1 pm1 cd1 ct1 : Value} {od2 an2 : Option Addr} {sl2 : Array (Option Value)} {oc2 kV2 dc2 pm2 cd2 ct2 : Value} {od3 an3 : Option Addr} {sl3 : Array (Option Value)} {oc3 kV3 dc3 pm3 cd3 ct3 : Value} {od4 an4 : Option Addr} {sl4 : Array (Option Value)} {oc4 kV4 dc4 pm4 cd4 ct4 : Value} {od5 an5 : Option Addr} {sl5 : Array (Option Value)} {oc5 kV5 dc5 pm5 cd5 ct5 : Value} {od6 an6 : Option Addr} {sl6 : Array (Option Value)} {oc6 kV6 dc6 pm6 cd6 ct6 : Value} {od7 an7 : Option Addr} {sl7 : Array (Option Value)} {oc7 kV7 dc7 pm7 cd7 ct7 : Value} {od8 an8 : Option Addr} {sl8 : Array (Option Value)} {oc8 kV8 dc8 pm8 cd8 ct8 : Value} {od9 an9 : Option Addr} {sl9 : Array (Option Value)} {oc9 kV9 dc9 pm9 cd9 ct9 : Value} {od10 an10 : Option Addr} {sl10 : Array (Option Value)} {oc10 kV10 dc10 pm10 cd10 ct10 : Value} {od11 an11 : Option Addr} {sl11 : Array (Option Value)} {oc11 kV11 dc11 pm11 cd11 ct11 : Value} {od12 an12 : Option Addr} {sl12 : Array (Option Value)} {oc12 kV12 dc12 pm12 cd12 ct12 : Value} {od13 an13 : Option Addr} {sl13 : Array (Option Value)} {oc13 kV13 dc13 pm13 cd13 ct13 : Value} {od14 an14 : Option Addr} {sl14 : Array (Option Value)} {oc14 kV14 dc14 pm14 cd14 ct14 : Value} {od15 an15 : Option Addr} {sl15 : Array (Option Value)} {oc15 kV15 dc15 pm15 cd15 ct15 : Value} {od16 an16 : Option Addr} {sl16 : Array (Option Value)} {oc16 kV16 dc16 pm16 cd16 ct16 : Value} {od17 an17 : Option Addr} {sl17 : Array (Option Value)} {oc17 kV17 dc17 pm17 cd17 ct17 : Value} {od18 an18 : Option Addr} {sl18 : Array (Option Value)} {oc18 kV18 dc18 pm18 cd18 ct18 : Value} {od19 an19 : Option Addr} {sl19 : Array (Option Value)} {oc19 kV19 dc19 pm19 cd19 ct19 : Value} {od20 an20 : Option Addr} {sl20 : Array (Option Value)} {oc20 kV20 dc20 pm20 cd20 ct20 : Value} {od21 an21 : Option Addr} {sl21 : Array (Option Value)} {oc21 kV21 dc21 pm21 cd21 ct21 : Value} {od22 an22 : Option Addr} {sl22 : Array (Option Value)} {oc22 kV22 dc22 pm22 cd22 ct22 : Value} {cd_0 : ClassData} {cd_1 : ClassData} {cd_2 : ClassData} {cd_3 : ClassData} {cd_4 : ClassData} {cd_5 : ClassData}
  (X : K.In h) (Tp : Top q loose mean mg mb h) (hfa : mg "law" = some (.ref faL)) (sp0 : specOf q "NoPlace" = some ("ValueError.__new__", bmV)) (sp1 : specOf q "NoMove" = some ("ValueError.__new__", bmV))
  (a0 : W.nsIn K mainGlobals "crossing_at" = some (some (.ref f0)))
  (l0 : K.lookup f0 = some ⟨oc0, od0, .func (FN "crossing_at" s_0 kV0 dc0 pm0 an0 cd0 ct0), sl0⟩)
  (c0 : W.codeIn K cd0 "crossing_at" = true)
  (k0 : W.keepIn K (.ref f0) = true)
  (a1 : W.nsIn K mainGlobals "line_at" = some (some (.ref f1)))
  (l1 : K.lookup f1 = some ⟨oc1, od1, .func (FN "line_at" s_1 kV1 dc1 pm1 an1 cd1 ct1), sl1⟩)
  (c1 : W.codeIn K cd1 "line_at" = true)
  (k1 : W.keepIn K (.ref f1) = true)
  (a2 : W.nsIn K mainGlobals "opposite" = some (some (.ref f2)))
  (l2 : K.lookup f2 = some ⟨oc2, od2, .func (FN "opposite" s_2 kV2 dc2 pm2 an2 cd2 ct2), sl2⟩)
  (c2 : W.codeIn K cd2 "opposite" = true)
  (k2 : W.keepIn K (.ref f2) = true)
  (a3 : W.nsIn K mainGlobals "numbered" = some (some (.ref f3)))
  (l3 : K.lookup f3 = some ⟨oc3, od3, .func (FN "numbered" s_3 kV3 dc3 pm3 an3 cd3 ct3), sl3⟩)
  (c3 : W.codeIn K cd3 "numbered" = true)
  (k3 : W.keepIn K (.ref f3) = true)
  (a4 : W.nsIn K mainGlobals "slid" = some (some (.ref f4)))
  (l4 : K.lookup f4 = some ⟨oc4, od4, .func (FN "slid" s_4 kV4 dc4 pm4 an4 cd4 ct4), sl4⟩)
  (c4 : W.codeIn K cd4 "slid" = true)
  (k4 : W.keepIn K (.ref f4) = true)
  (a5 : W.nsIn K mainGlobals "slide_ends" = some (some (.ref f5)))
  (l5 : K.lookup f5 = some ⟨oc5, od5, .func (FN "slide_ends" s_5 kV5 dc5 pm5 an5 cd5 ct5), sl5⟩)
  (c5 : W.codeIn K cd5 "slide_ends" = true)
  (k5 : W.keepIn K (.ref f5) = true)
  (a6 : W.nsIn K mainGlobals "end_with" = some (some (.ref f6)))
  (l6 : K.lookup f6 = some ⟨oc6, od6, .func (FN "end_with" s_6 kV6 dc6 pm6 an6 cd6 ct6), sl6⟩)
  (c6 : W.codeIn K cd6 "end_with" = true)
  (k6 : W.keepIn K (.ref f6) = true)
  (a7 : W.nsIn K mainGlobals "passed" = some (some (.ref f7)))
  (l7 : K.lookup f7 = some ⟨oc7, od7, .func (FN "passed" s_7 kV7 dc7 pm7 an7 cd7 ct7), sl7⟩)
  (c7 : W.codeIn K cd7 "passed" = true)
  (k7 : W.keepIn K (.ref f7) = true)
  (a8 : W.nsIn K mainGlobals "relined" = some (some (.ref f8)))
  (l8 : K.lookup f8 = some ⟨oc8, od8, .func (FN "relined" s_8 kV8 dc8 pm8 an8 cd8 ct8), sl8⟩)
  (c8 : W.codeIn K cd8 "relined" = true)
  (k8 : W.keepIn K (.ref f8) = true)
  (a9 : W.nsIn K mainGlobals "_law_cell_at" = some (some (.ref f9)))
  (l9 : K.lookup f9 = some ⟨oc9, od9, .func (FN "_law_cell_at" s_9 kV9 dc9 pm9 an9 cd9 ct9), sl9⟩)
  (c9 : W.codeIn K cd9 "_law_cell_at" = true)
  (k9 : W.keepIn K (.ref f9) = true)
  (a10 : W.nsIn K mainGlobals "_law_pick" = some (some (.ref f10)))
  (l10 : K.lookup f10 = some ⟨oc10, od10, .func (FN "_law_pick" s_10 kV10 dc10 pm10 an10 cd10 ct10), sl10⟩)
  (c10 : W.codeIn K cd10 "_law_pick" = true)
  (k10 : W.keepIn K (.ref f10) = true)
  (a11 : W.nsIn K mainGlobals "_law_rows" = some (some (.ref f11)))
  (l11 : K.lookup f11 = some ⟨oc11, od11, .func (FN "_law_rows" s_11 kV11 dc11 pm11 an11 cd11 ct11), sl11⟩)
  (c11 : W.codeIn K cd11 "_law_rows" = true)
  (k11 : W.keepIn K (.ref f11) = true)
  (a12 : W.nsIn K mainGlobals "_law_numbered" = some (some (.ref f12)))
  (l12 : K.lookup f12 = some ⟨oc12, od12, .func (FN "_law_numbered" s_12 kV12 dc12 pm12 an12 cd12 ct12), sl12⟩)
  (c12 : W.codeIn K cd12 "_law_numbered" = true)
  (k12 : W.keepIn K (.ref f12) = true)
  (a13 : W.nsIn K mainGlobals "_law_whole" = some (some (.ref f13)))
  (l13 : K.lookup f13 = some ⟨oc13, od13, .func (FN "_law_whole" s_13 kV13 dc13 pm13 an13 cd13 ct13), sl13⟩)
  (c13 : W.codeIn K cd13 "_law_whole" = true)
  (k13 : W.keepIn K (.ref f13) = true)
  (a14 : W.nsIn K mainGlobals "_law_same" = some (some (.ref f14)))
  (l14 : K.lookup f14 = some ⟨oc14, od14, .func (FN "_law_same" s_14 kV14 dc14 pm14 an14 cd14 ct14), sl14⟩)
  (c14 : W.codeIn K cd14 "_law_same" = true)
  (k14 : W.keepIn K (.ref f14) = true)
  (a15 : W.nsIn K mainGlobals "_law_refused" = some (some (.ref f15)))
  (l15 : K.lookup f15 = some ⟨oc15, od15, .func (FN "_law_refused" s_15 kV15 dc15 pm15 an15 cd15 ct15), sl15⟩)
  (c15 : W.codeIn K cd15 "_law_refused" = true)
  (k15 : W.keepIn K (.ref f15) = true)
  (a16 : W.nsIn K mainGlobals "_law_told" = some (some (.ref f16)))
  (l16 : K.lookup f16 = some ⟨oc16, od16, .func (FN "_law_told" s_16 kV16 dc16 pm16 an16 cd16 ct16), sl16⟩)
  (c16 : W.codeIn K cd16 "_law_told" = true)
  (k16 : W.keepIn K (.ref f16) = true)
  (a17 : W.nsIn K mainGlobals "_law_three" = some (some (.ref f17)))
  (l17 : K.lookup f17 = some ⟨oc17, od17, .func (FN "_law_three" s_17 kV17 dc17 pm17 an17 cd17 ct17), sl17⟩)
  (c17 : W.codeIn K cd17 "_law_three" = true)
  (k17 : W.keepIn K (.ref f17) = true)
  (a18 : W.nsIn K mainGlobals "_law_slid" = some (some (.ref f18)))
  (l18 : K.lookup f18 = some ⟨oc18, od18, .func (FN "_law_slid" s_18 kV18 dc18 pm18 an18 cd18 ct18), sl18⟩)
  (c18 : W.codeIn K cd18 "_law_slid" = true)
  (k18 : W.keepIn K (.ref f18) = true)
  (a19 : W.nsIn K mainGlobals "_law_corners" = some (some (.ref f19)))
  (l19 : K.lookup f19 = some ⟨oc19, od19, .func (FN "_law_corners" s_19 kV19 dc19 pm19 an19 cd19 ct19), sl19⟩)
  (c19 : W.codeIn K cd19 "_law_corners" = true)
  (k19 : W.keepIn K (.ref f19) = true)
  (a20 : W.nsIn K mainGlobals "_law_spots" = some (some (.ref f20)))
  (l20 : K.lookup f20 = some ⟨oc20, od20, .func (FN "_law_spots" s_20 kV20 dc20 pm20 an20 cd20 ct20), sl20⟩)
  (c20 : W.codeIn K cd20 "_law_spots" = true)
  (k20 : W.keepIn K (.ref f20) = true)
  (a21 : W.nsIn K mainGlobals "_law_far" = some (some (.ref f21)))
  (l21 : K.lookup f21 = some ⟨oc21, od21, .func (FN "_law_far" s_21 kV21 dc21 pm21 an21 cd21 ct21), sl21⟩)
  (c21 : W.codeIn K cd21 "_law_far" = true)
  (k21 : W.keepIn K (.ref f21) = true)
  (a22 : W.nsIn K mainGlobals "law" = some (some (.ref f22)))
  (l22 : K.lookup f22 = some ⟨oc22, od22, .func (FN "law" s_22 kV22 dc22 pm22 an22 cd22 ct22), sl22⟩)
  (c22 : W.codeIn K cd22 "law" = true)
  (k22 : W.keepIn K (.ref f22) = true)
  (z_bool : W.nsIn K mainGlobals "bool" = some none)
  (z_int : W.nsIn K mainGlobals "int" = some none)
  (z_isinstance : W.nsIn K mainGlobals "isinstance" = some none)
  (z_len : W.nsIn K mainGlobals "len" = some none)
  (z_list : W.nsIn K mainGlobals "list" = some none)
  (z_max : W.nsIn K mainGlobals "max" = some none)
  (z_min : W.nsIn K mainGlobals "min" = some none)
  (z_range : W.nsIn K mainGlobals "range" = some none)
  (z_set : W.nsIn K mainGlobals "set" = some none)
  (z_tuple : W.nsIn K mainGlobals "tuple" = some none)
  (z_ValueError : W.nsIn K mainGlobals "ValueError" = some none)
  (n_NoPlace : W.nsIn K mainGlobals "NoPlace" = some (some (.ref C0)))
  (n_NoMove : W.nsIn K mainGlobals "NoMove" = some (some (.ref C1)))
  (n_CordError : W.nsIn K mainGlobals "CordError" = some (some (.ref C2)))
  (n_Crowded : W.nsIn K mainGlobals "Crowded" = some (some (.ref C3)))
  (n_NoSheet : W.nsIn K mainGlobals "NoSheet" = some (some (.ref C4)))
  (n_NoNote : W.nsIn K mainGlobals "NoNote" = some (some (.ref C5)))
  (gs : W.specialIn K (.builtin "object.__class__") "__get__" = some (some (.builtin "getset_descriptor.__get__")))
  (tk : W.takesIn K (.builtin "object.__class__") = some true)
  (ga0 : W.findIn K (.ref C0) "__getattribute__" = some (some (.builtin "BaseException.__getattribute__")))
  (gt0 : W.findIn K (.ref C0) "__getattr__" = some none)
  (gc0 : W.findIn K (.ref C0) "__class__" = some (some (.builtin "object.__class__")))
  (go0 : W.mroIn K C0 (.type "object") = some true)
  (gb0 : W.mroIn K C0 (.type "BaseException") = some true)
  (ga1 : W.findIn K (.ref C1) "__getattribute__" = some (some (.builtin "BaseException.__getattribute__")))
  (gt1 : W.findIn K (.ref C1) "__getattr__" = some none)
  (gc1 : W.findIn K (.ref C1) "__class__" = some (some (.builtin "object.__class__")))
  (go1 : W.mroIn K C1 (.type "object") = some true)
  (gb1 : W.mroIn K C1 (.type "BaseException") = some true)
  (cc0 : W.clsIn K C0 = some cd_0)
  (ct0_ : W.typeIn K (.ref C0) = some (.type "type"))
  (ss0 : W.subIn K (.ref C0) (.ref C0) = some true)
  (cc1 : W.clsIn K C1 = some cd_1)
  (ct1_ : W.typeIn K (.ref C1) = some (.type "type"))
  (ss1 : W.subIn K (.ref C1) (.ref C1) = some true)
  (cc2 : W.clsIn K C2 = some cd_2)
  (ct2_ : W.typeIn K (.ref C2) = some (.type "type"))
  (ss2 : W.subIn K (.ref C2) (.ref C2) = some true)
  (cc3 : W.clsIn K C3 = some cd_3)
  (ct3_ : W.typeIn K (.ref C3) = some (.type "type"))
  (ss3 : W.subIn K (.ref C3) (.ref C3) = some true)
  (cc4 : W.clsIn K C4 = some cd_4)
  (ct4_ : W.typeIn K (.ref C4) = some (.type "type"))
  (ss4 : W.subIn K (.ref C4) (.ref C4) = some true)
  (cc5 : W.clsIn K C5 = some cd_5)
  (ct5_ : W.typeIn K (.ref C5) = some (.type "type"))
  (ss5 : W.subIn K (.ref C5) (.ref C5) = some true)
  (u0_2 : W.subIn K (.ref C0) (.ref C2) = some true)
  (u1_2 : W.subIn K (.ref C1) (.ref C2) = some true)
  (u0_3 : W.subIn K (.ref C0) (.ref C3) = some false)
  (u1_3 : W.subIn K (.ref C1) (.ref C3) = some false)
  (u0_1 : W.subIn K (.ref C0) (.ref C1) = some false)
  (u0_5 : W.subIn K (.ref C0) (.ref C5) = some false)
  (u1_5 : W.subIn K (.ref C1) (.ref C5) = some false)
  (u1_0 : W.subIn K (.ref C1) (.ref C0) = some false)
  (u0_4 : W.subIn K (.ref C0) (.ref C4) = some false)
  (u1_4 : W.subIn K (.ref C1) (.ref C4) = some false)
  (v0_ValueError : W.subIn K (.ref C0) (.type "ValueError") = some true)
  (v1_ValueError : W.subIn K (.ref C1) (.type "ValueError") = some true)
  (be_CordError : W.subIn K (.ref C2) (.type "BaseException") = some true)
  (j : Nat) : ∃ (fdL : FuncData) (cl : Nat → Addr), (∀ (s : Shared) (v : Value), BindsTo s fdL ⟨[v], []⟩ [("script", v)]) ∧ ∀ base : Heap, K.In base → base.Ns mainGlobals mg → (∀ b o, h.get? b = some o → (∀ its n, o.data ≠ .seq its n) → base.get? b = some o) →
   FnOk l.prog w K mg base (CXE l.prog w) (j + 1) faL fdL ["script"] (spOf K cl (Phi prog j) lawId) := by
 have G := Tp.g
 have eL : f22 = faL := (Value.ref.inj (Option.some.inj (hfa.symm.trans (W.mg_of X G a22)))).symm
 subst eL
 have F0 := aV (st := s_0) l0 c0 k0
 have B0 := F0.binds (ps := P_0) fun _ _ _ _ _ _ us hl => by obtain ⟨_, _, rfl⟩ := us2 hl; rfl
 have F1 := aV (st := s_1) l1 c1 k1
 have B1 := F1.binds (ps := P_1) fun _ _ _ _ _ _ us hl => by obtain ⟨_, _, rfl⟩ := us2 hl; rfl
 have F2 := aV (st := s_2) l2 c2 k2
 have B2 := F2.binds (ps := P_2) fun _ _ _ _ _ _ us hl => by obtain ⟨_, rfl⟩ := us1 hl; rfl
 have F3 := aV (st := s_3) l3 c3 k3
 have B3 := F3.binds (ps := P_3) fun _ _ _ _ _ _ us hl => by obtain ⟨_, _, rfl⟩ := us2 hl; rfl
 have F4 := aV (st := s_4) l4 c4 k4
 have B4 := F4.binds (ps := P_4) fun _ _ _ _ _ _ us hl => by obtain ⟨_, _, _, _, rfl⟩ := us4 hl; rfl
 have F5 := aV (st := s_5) l5 c5 k5
 have B5 := F5.binds (ps := P_5) fun _ _ _ _ _ _ us hl => by obtain ⟨_, _, _, rfl⟩ := us3 hl; rfl
 have F6 := aV (st := s_6) l6 c6 k6
 have B6 := F6.binds (ps := P_6) fun _ _ _ _ _ _ us hl => by obtain ⟨_, _, _, rfl⟩ := us3 hl; rfl
 have F7 := aV (st := s_7) l7 c7 k7
 have B7 := F7.binds (ps := P_7) fun _ _ _ _ _ _ us hl => by obtain ⟨_, _, _, rfl⟩ := us3 hl; rfl
 have F8 := aV (st := s_8) l8 c8 k8
 have B8 := F8.binds (ps := P_8) fun _ _ _ _ _ _ us hl => by obtain ⟨_, _, _, rfl⟩ := us3 hl; rfl
 have F9 := aV (st := s_9) l9 c9 k9
 have B9 := F9.binds (ps := P_9) fun _ _ _ _ _ _ us hl => by obtain ⟨_, _, rfl⟩ := us2 hl; rfl
 have F10 := aV (st := s_10) l10 c10 k10
 have B10 := F10.binds (ps := P_10) fun _ _ _ _ _ _ us hl => by obtain ⟨_, _, rfl⟩ := us2 hl; rfl
 have F11 := aV (st := s_11) l11 c11 k11
 have B11 := F11.binds (ps := P_11) fun _ _ _ _ _ _ us hl => by obtain ⟨_, _, _, _, rfl⟩ := us4 hl; rfl
 have F12 := aV (st := s_12) l12 c12 k12
 have B12 := F12.binds (ps := P_12) fun _ _ _ _ _ _ us hl => by obtain ⟨_, rfl⟩ := us1 hl; rfl
 have F13 := aV (st := s_13) l13 c13 k13
 have B13 := F13.binds (ps := P_13) fun _ _ _ _ _ _ us hl => by obtain ⟨_, rfl⟩ := us1 hl; rfl
 have F14 := aV (st := s_14) l14 c14 k14
 have B14 := F14.binds (ps := P_14) fun _ _ _ _ _ _ us hl => by obtain ⟨_, _, rfl⟩ := us2 hl; rfl
 have F15 := aV (st := s_15) l15 c15 k15
 have B15 := F15.binds (ps := P_15) fun _ _ _ _ _ _ us hl => by obtain ⟨_, _, rfl⟩ := us2 hl; rfl
 have F16 := aV (st := s_16) l16 c16 k16
 have B16 := F16.binds (ps := P_16) fun _ _ _ _ _ _ us hl => by obtain ⟨_, _, _, _, rfl⟩ := us4 hl; rfl
 have F17 := aV (st := s_17) l17 c17 k17
 have B17 := F17.binds (ps := P_17) fun _ _ _ _ _ _ us hl => by obtain ⟨_, _, _, rfl⟩ := us3 hl; rfl
 have F18 := aV (st := s_18) l18 c18 k18
 have B18 := F18.binds (ps := P_18) fun _ _ _ _ _ _ us hl => by obtain ⟨_, _, _, _, rfl⟩ := us4 hl; rfl
 have F19 := aV (st := s_19) l19 c19 k19
 have B19 := F19.binds (ps := P_19) fun _ _ _ _ _ _ us hl => by obtain ⟨_, _, _, _, rfl⟩ := us4 hl; rfl
 have F20 := aV (st := s_20) l20 c20 k20
 have B20 := F20.binds (ps := P_20) fun _ _ _ _ _ _ us hl => by obtain ⟨_, _, rfl⟩ := us2 hl; rfl
 have F21 := aV (st := s_21) l21 c21 k21
 have B21 := F21.binds (ps := P_21) fun _ _ _ _ _ _ us hl => by obtain ⟨_, _, rfl⟩ := us2 hl; rfl
 have F22 := aV (st := s_22) l22 c22 k22
 have B22 := F22.binds (ps := P_22) fun _ _ _ _ _ _ us hl => by obtain ⟨_, rfl⟩ := us1 hl; rfl
 let fa : Nat → Addr := fun i => match i with | 0 => f0 | 1 => f1 | 2 => f2 | 3 => f3 | 4 => f4 | 5 => f5 | 6 => f6 | 7 => f7 | 8 => f8 | 9 => f9 | 10 => f10 | 11 => f11 | 12 => f12 | 13 => f13 | 14 => f14 | 15 => f15 | 16 => f16 | 17 => f17 | 18 => f18 | 19 => f19 | 20 => f20 | 21 => f21 | 22 => f22 | _ => f0
 let fd : Nat → FuncData := fun i => match i with | 0 => FN "crossing_at" s_0 kV0 dc0 pm0 an0 cd0 ct0 | 1 => FN "line_at" s_1 kV1 dc1 pm1 an1 cd1 ct1 | 2 => FN "opposite" s_2 kV2 dc2 pm2 an2 cd2 ct2 | 3 => FN "numbered" s_3 kV3 dc3 pm3 an3 cd3 ct3 | 4 => FN "slid" s_4 kV4 dc4 pm4 an4 cd4 ct4 | 5 => FN "slide_ends" s_5 kV5 dc5 pm5 an5 cd5 ct5 | 6 => FN "end_with" s_6 kV6 dc6 pm6 an6 cd6 ct6 | 7 => FN "passed" s_7 kV7 dc7 pm7 an7 cd7 ct7 | 8 => FN "relined" s_8 kV8 dc8 pm8 an8 cd8 ct8 | 9 => FN "_law_cell_at" s_9 kV9 dc9 pm9 an9 cd9 ct9 | 10 => FN "_law_pick" s_10 kV10 dc10 pm10 an10 cd10 ct10 | 11 => FN "_law_rows" s_11 kV11 dc11 pm11 an11 cd11 ct11 | 12 => FN "_law_numbered" s_12 kV12 dc12 pm12 an12 cd12 ct12 | 13 => FN "_law_whole" s_13 kV13 dc13 pm13 an13 cd13 ct13 | 14 => FN "_law_same" s_14 kV14 dc14 pm14 an14 cd14 ct14 | 15 => FN "_law_refused" s_15 kV15 dc15 pm15 an15 cd15 ct15 | 16 => FN "_law_told" s_16 kV16 dc16 pm16 an16 cd16 ct16 | 17 => FN "_law_three" s_17 kV17 dc17 pm17 an17 cd17 ct17 | 18 => FN "_law_slid" s_18 kV18 dc18 pm18 an18 cd18 ct18 | 19 => FN "_law_corners" s_19 kV19 dc19 pm19 an19 cd19 ct19 | 20 => FN "_law_spots" s_20 kV20 dc20 pm20 an20 cd20 ct20 | 21 => FN "_law_far" s_21 kV21 dc21 pm21 an21 cd21 ct21 | 22 => FN "law" s_22 kV22 dc22 pm22 an22 cd22 ct22 | _ => FN "crossing_at" s_0 kV0 dc0 pm0 an0 cd0 ct0
 let cl : Nat → Addr := fun c => match c with | 0 => C0 | 1 => C1 | 2 => C2 | 3 => C3 | 4 => C4 | 5 => C5 | _ => C0
 have T : Txt K mg cl fa fd := {
  n_bool := W.mg_none_of X G z_bool
  n_int := W.mg_none_of X G z_int
  n_isinstance := W.mg_none_of X G z_isinstance
  n_len := W.mg_none_of X G z_len
  n_list := W.mg_none_of X G z_list
  n_max := W.mg_none_of X G z_max
  n_min := W.mg_none_of X G z_min
  n_range := W.mg_none_of X G z_range
  n_set := W.mg_none_of X G z_set
  n_tuple := W.mg_none_of X G z_tuple
  m_0 := W.mg_of X G a0
  k_0 := k0
  b_0 := B0
  F_0 := F0
  m_1 := W.mg_of X G a1
  k_1 := k1
  b_1 := B1
  F_1 := F1
  m_2 := W.mg_of X G a2
  k_2 := k2
  b_2 := B2
  F_2 := F2
  m_3 := W.mg_of X G a3
  k_3 := k3
  b_3 := B3
  F_3 := F3
  m_4 := W.mg_of X G a4
  k_4 := k4
  b_4 := B4
  F_4 := F4
  m_5 := W.mg_of X G a5
  k_5 := k5
  b_5 := B5
  F_5 := F5
  m_6 := W.mg_of X G a6
  k_6 := k6
  b_6 := B6
  F_6 := F6
  m_7 := W.mg_of X G a7
  k_7 := k7
  b_7 := B7
  F_7 := F7
  m_8 := W.mg_of X G a8
  k_8 := k8
  b_8 := B8
  F_8 := F8
  m_9 := W.mg_of X G a9
  k_9 := k9
  b_9 := B9
  F_9 := F9
  m_10 := W.mg_of X G a10
  k_10 := k10
  b_10 := B10
  F_10 := F10
  m_11 := W.mg_of X G a11
  k_11 := k11
  b_11 := B11
  F_11 := F11
  m_12 := W.mg_of X G a12
  k_12 := k12
  b_12 := B12
  F_12 := F12
  m_13 := W.mg_of X G a13
  k_13 := k13
  b_13 := B13
  F_13 := F13
  m_14 := W.mg_of X G a14
  k_14 := k14
  b_14 := B14
  F_14 := F14
  m_15 := W.mg_of X G a15
  k_15 := k15
  b_15 := B15
  F_15 := F15
  m_16 := W.mg_of X G a16
  k_16 := k16
  b_16 := B16
  F_16 := F16
  m_17 := W.mg_of X G a17
  k_17 := k17
  b_17 := B17
  F_17 := F17
  m_18 := W.mg_of X G a18
  k_18 := k18
  b_18 := B18
  F_18 := F18
  m_19 := W.mg_of X G a19
  k_19 := k19
  b_19 := B19
  F_19 := F19
  m_20 := W.mg_of X G a20
  k_20 := k20
  b_20 := B20
  F_20 := F20
  m_21 := W.mg_of X G a21
  k_21 := k21
  b_21 := B21
  F_21 := F21
  m_22 := W.mg_of X G a22
  k_22 := k22
  b_22 := B22
  F_22 := F22
  c_NoPlace := W.mg_of X G n_NoPlace
  c_NoMove := W.mg_of X G n_NoMove
  c_CordError := W.mg_of X G n_CordError
  c_Crowded := W.mg_of X G n_Crowded
  c_NoSheet := W.mg_of X G n_NoSheet
  c_NoNote := W.mg_of X G n_NoNote
  x_0 := ⟨ga0, gt0, gc0, gs, tk, go0, gb0, ⟨_, cc0⟩⟩
  x_1 := ⟨ga1, gt1, gc1, gs, tk, go1, gb1, ⟨_, cc1⟩⟩
  q_0_NoPlace := cD cc0 ct0_ ss0 ss0
  q_1_NoPlace := cD cc0 ct0_ u1_0 ss0
  q_0_NoSheet := cD cc4 ct4_ u0_4 ss4
  q_1_NoSheet := cD cc4 ct4_ u1_4 ss4
  q_0_NoMove := cD cc1 ct1_ u0_1 ss1
  q_1_NoMove := cD cc1 ct1_ ss1 ss1
  q_0_Crowded := cD cc3 ct3_ u0_3 ss3
  q_1_Crowded := cD cc3 ct3_ u1_3 ss3
  q_0_ValueError := pT v0_ValueError
  q_1_ValueError := pT v1_ValueError
  n_ValueError := W.mg_none_of X G z_ValueError
  q_0_NoNote := cD cc5 ct5_ u0_5 ss5
  q_1_NoNote := cD cc5 ct5_ u1_5 ss5
  e_CordError := fun c hc => by
   simp only [List.mem_cons, List.not_mem_nil, or_false] at hc
   rcases hc with rfl | rfl
   ·exact pU be_CordError cc2 ct2_ u0_2
   ·exact pU be_CordError cc2 ct2_ u1_2
 }
 have O0 : OwnCls "NoPlace" C0 bmV "ValueError.__new__" mg h := by
  obtain ⟨D, OD, _⟩ := Tp.ownAt sp0
  have e := OD.bound.symm.trans (W.mg_of X G n_NoPlace)
  cases e
  exact OD.own
 have O1 : OwnCls "NoMove" C1 bmV "ValueError.__new__" mg h := by
  obtain ⟨D, OD, _⟩ := Tp.ownAt sp1
  have e := OD.bound.symm.trans (W.mg_of X G n_NoMove)
  cases e
  exact OD.own
 refine ⟨fd 22, cl, fun s v => .of_eq rfl, fun base kb nb hh => qF T (fun c hc => ?_) j 22 (by decide)⟩
 match c, hc with
 | 0, _ => exact jR O0 hh
 | 1, _ => exact jR O1 hh
 | n + 2, h => exact absurd h (by omega)
end L
namespace L
open Py
noncomputable def depth : Nat := 9
theorem cE (k : Nat) (ns : List Int) (i : Nat) : Phi prog (k + 1) 9 [.scr ns, .int (i : Nat)] = .ok (.int (cellV ns i)) := by
 show (xecs (Phi prog k) prog.gls 1000 Bcell [some (false, .scr ns), some (false, .int (i : Nat))]).val = _
 rw [pZ]; rfl
theorem qG (k : Nat) (ns : List Int) (i : Nat) : Phi prog (k + 2) 10 [.scr ns, .int (i : Nat)] = .ok (.int (pickV ns i)) := by
 show (xecs (Phi prog (k + 1)) prog.gls 1000 (Bpick 9) [some (false, .scr ns), some (false, .int (i : Nat))]).val = _
 rw [pick_run ns i (cE k ns 0)]; rfl
theorem p_rows (k : Nat) (ns : List Int) (start m : Nat) (hm : m ≤ 50) : Phi prog (k + 3) 11 [.scr ns, .int (start : Nat), .int (m : Nat), .lst []] = .ok (.lst ((chunks m (runP (fun k => pickV ns (start + k)) (startP m [])).owner).map rowD)) := by
 show (xecs (Phi prog (k + 2)) prog.gls 1000 (Brows 10) [some (false, .scr ns), some (false, .int (start : Nat)), some (false, .int (m : Nat)), some (false, .lst (([] : List (Nat × Nat)).map pairD)), none, none, none, none, none]).val = _
 rw [jW (by omega) (by simp) (by simp) (qG k ns) (by decide)]; rfl
theorem gN (k : Nat) {R : List (List Int)} (h4 : ∀ r ∈ R, r.length = 4) (hL : R.length ≤ 50) : Phi prog (k + 1) 12 [.lst (R.map rowD)] = .ok (.tup ((numV R).map rowD)) := by
 show (xecs (Phi prog k) prog.gls 1000 Bnumbered [some (false, .lst (R.map rowD)), none, none, none, none]).val = _
 have hf := mI h4
 rw [iY (hG (by simp; omega)) (fun r hr => by rw [h4 r hr]; decide) (by omega) (by omega)]; rfl
theorem p_whole (k : Nat) (x : Int) : Phi prog (k + 1) 13 [.int x] = .ok (.bl true) := by
 show (xecs (Phi prog k) prog.gls 1000 Bwhole [some (false, .int x)]).val = _
 rw [nU]; rfl
theorem iD (k : Nat) (w : Int) : Phi prog (k + 1) 15 [marksD w, .int w] = .ok (.bl true) := by
 show (xecs (Phi prog k) prog.gls 1000 Brefused [some (false, marksD w), some (false, .int w)]).val = _
 rw [j3]; rfl
theorem p_same (k : Nat) {Q : List (List Int)} {g : Int} (h4 : ∀ r ∈ Q, r.length = 4) (hQ : Q.length ≤ 50) : Phi prog (k + 2) 14 [shD Q g, shD Q g] = .ok (.bl true) := by
 show (xecs (Phi prog (k + 1)) prog.gls 1000 (Bsame 13) [some (false, shD Q g), some (false, shD Q g), none, none, none]).val = _
 rw [shD, qB (p_whole k) h4 (by omega)]; rfl
theorem p_num (k : Nat) {R : List (List Int)} {g : Int} (h4 : ∀ r ∈ R, r.length = 4) (hL : R.length ≤ 50) : Phi prog (k + 1) 3 [.lst (R.map rowD), .int g] = .ok (shD (numV R) g) := by
 show (xecs (Phi prog k) prog.gls 1000 Bnum [some (false, .lst (R.map rowD)), some (false, .int g), none, none, none, none]).val = _
 have hf := mI h4
 rw [qA (hG (by simp; omega)) (fun r hr => by rw [h4 r hr]; decide) (by omega) (by omega)]; rfl
theorem cV (k : Nat) {d0 : D} {Q : List (List Int)} {p : Nat × Nat} {v : Int} (hl : op1 .list d0 = .ok (.lst (Q.map rowD))) (h4 : ∀ r ∈ Q, r.length = 4) (hp : p.1 < Q.length ∧ p.2 < 4) : Phi prog (k + 1) 8 [d0, pairD p, .int v] = .ok (.lst ((setP Q p v).map rowD)) := by
 show (xecs (Phi prog k) prog.gls 1000 Brelined [some (false, d0), some (false, pairD p), some (false, .int v), none, none]).val = _
 rw [j7 hl h4 hp.1 hp.2]; rfl
theorem p_rowsF (k : Nat) (ns : List Int) (start m : Nat) (hm : m ≤ 50) {fx : List (Nat × Nat)} (hl : fx.length ≤ 1000) (hf : ∀ x ∈ fx, x.1 < 4 * m ∧ x.2 < 4 * m) : Phi prog (k + 3) 11 [.scr ns, .int (start : Nat), .int (m : Nat), .lst (fx.map pairD)] = .ok (.lst ((chunks m (runP (fun k => pickV ns (start + k)) (startP m fx)).owner).map rowD)) := by
 show (xecs (Phi prog (k + 2)) prog.gls 1000 (Brows 10) [some (false, .scr ns), some (false, .int (start : Nat)), some (false, .int (m : Nat)), some (false, .lst (fx.map pairD)), none, none, none, none, none]).val = _
 rw [jW (by omega) hl hf (qG k ns) (by decide)]; rfl
theorem p_at (k : Nat) {Q : List (List Int)} {g x : Int} : Phi prog (k + 1) 0 [shD Q g, .int x] = if x < 0 ∨ (Q.length : Int) ≤ x then .exc 0 else .ok (rowD (Q.getD x.toNat [])) := by
 show (xecs (Phi prog k) prog.gls 1000 (Bat 0) [some (false, shD Q g), some (false, .int x)]).val = _
 exact at_run
theorem p_far (k : Nat) (x y : Int) : ∃ v, Phi prog (k + 1) 21 [.int x, .int y] = .ok (.int v) := by
 have p30 : op2 .pow (.int 10) (.int 30) = .ok (.int (10 ^ 30)) := rfl
 have mp : ∀ x : Int, op2 .mod (.int x) (.int (10 ^ 30)) = .ok (.int (x % 10 ^ 30)) := fun x => dA _ _ (by decide)
 have d2 : ∀ x : Int, op2 .fdiv (.int x) (.int 2) = .ok (.int (x / 2)) := fun x => eG _ _ (by decide)
 have m2 : ∀ x : Int, op2 .mod (.int x) (.int 2) = .ok (.int (x % 2)) := fun x => dA _ _ (by decide)
 show ∃ v, (xecs (Phi prog k) prog.gls 1000 cU [some (false, .int x), some (false, .int y)]).val = .ok (.int v)
 unfold cU
 by_cases hc : (x % 2 == 1) = true
 ·exact ⟨_, by simp only [xecs, xec, evT, ev, frz, leaksT, leaks, rdR, rdV, Za, Zc, Zf, Zk, Zl, Zq, if_true, ZA, ZG, m2, hc, d2, p30, mp]; rfl⟩
 ·exact ⟨_, by simp only [xecs, xec, evT, ev, frz, leaksT, leaks, rdR, rdV, Za, Zc, Zf, Zk, Zl, Zq, if_true, if_false, Bool.false_eq_true, ZA, ZB, ZG, ZO, m2, hc, d2, p30, mp]; rfl⟩
theorem at4 (a b c d : D) : atD [a, b, c, d] 0 = some a ∧ atD [a, b, c, d] 1 = some b ∧ atD [a, b, c, d] 2 = some c ∧ atD [a, b, c, d] 3 = some d := ⟨rfl, rfl, rfl, rfl⟩
noncomputable def optD : Option Nat → D
 | none => .non
 | some e => .int (e : Nat)
noncomputable def endV (r : List Int) (a b : Nat) (t : Int) : Option Nat := if r.getD a 0 = t then some a else if r.getD b 0 = t then some b else none
theorem bO {r : List Int} (h : r.length = 4) {e : Nat} (he : e < 4) : op2 .at (rowD r) (.int (e : Nat)) = .ok (.int (r.getD e 0)) := by
 show ofO (atD (intL r) _) = _
 rw [j2 (by omega)]; rfl
theorem p_end (k : Nat) {r : List Int} {a b : Nat} {t : Int} (h : r.length = 4) (ha : a < 4) (hb : b < 4) : Phi prog (k + 1) 6 [rowD r, .tup [.int (a : Nat), .int (b : Nat)], .int t] = .ok (optD (endV r a b t)) := by
 show (xecs (Phi prog k) prog.gls 1000 bN [some (false, rowD r), some (false, .tup [.int (a : Nat), .int (b : Nat)]), some (false, .int t), none]).val = _
 have a1 := bO h ha
 have a2 := bO h hb
 have hi : itemsD .seq [.tup [.int ((a : Nat) : Int), .int ((b : Nat) : Int)]] = .ok [.int ((a : Nat) : Int), .int ((b : Nat) : Int)] := bW (by simp)
 unfold endV
 generalize r.getD a 0 = u at *
 generalize r.getD b 0 = v at *
 generalize rowD r = R at *
 have oa : optD (some a) = .int ((a : Nat) : Int) := rfl
 have ob : optD (some b) = .int ((b : Nat) : Int) := rfl
 by_cases h1 : u = t
 ·have e1 : (u == t) = true := by simpa using h1
  rw [if_pos h1, oa]
  generalize ((a : Nat) : Int) = A at *
  generalize ((b : Nat) : Int) = B at *
  simp only [bN, xecs, xec, evT, ev, evs, frz, frz1, leaksT, leaks, leakss, rdR, rdV, Za, Zc, Py.sets, spread, Zf, Zh, Zi, Zj, Zk, Zl, Zq, if_true, if_false, Bool.false_eq_true, ZG, hi, Py.forM, a1, e1, List.length_cons, List.length_nil, Nat.zero_add]
  rfl
 ·have e1 : (u == t) = false := by simpa using h1
  rw [if_neg h1]
  by_cases h2 : v = t
  ·have e2 : (v == t) = true := by simpa using h2
   rw [if_pos h2, ob]
   generalize ((a : Nat) : Int) = A at *
   generalize ((b : Nat) : Int) = B at *
   simp only [bN, xecs, xec, evT, ev, evs, frz, frz1, leaksT, leaks, leakss, rdR, rdV, Za, Zc, Py.sets, spread, Zf, Zh, Zi, Zj, Zk, Zl, Zq, if_true, if_false, Bool.false_eq_true, ZG, hi, Py.forM, a1, a2, e1, e2, List.length_cons, List.length_nil, Nat.zero_add]
   rfl
  ·have e2 : (v == t) = false := by simpa using h2
   rw [if_neg h2]
   generalize ((a : Nat) : Int) = A at *
   generalize ((b : Nat) : Int) = B at *
   simp only [bN, xecs, xec, evT, ev, evs, frz, frz1, leaksT, leaks, leakss, rdR, rdV, Za, Zc, Py.sets, spread, Zf, Zh, Zi, Zj, Zk, Zl, Zq, if_true, if_false, Bool.false_eq_true, ZG, hi, Py.forM, a1, a2, e1, e2, List.length_cons, List.length_nil, Nat.zero_add]
   rfl
noncomputable def slideV (c g h : List Int) (low step : Nat) : Option (List Nat) := match endV g 1 3 (c.getD ((low + step) % 4) 0) with
 | none => none
 | some j => match endV h 0 2 (g.getD ((j + step) % 4) 0) with
  | none => none
  | some q => if h.getD ((q + step) % 4) 0 = c.getD low 0 then some [low, (low + step) % 4, j, (j + step) % 4, q, (q + step) % 4] else none
noncomputable def foundD : Option (List Nat) → D
 | some [p, i, j, r, q, o] => .tup [.tup [.int (p : Nat), .int (i : Nat)], .tup [.int (j : Nat), .int (r : Nat)], .tup [.int (q : Nat), .int (o : Nat)]]
 | _ => .non
theorem lL {r : List Int} {a b : Nat} {t : Int} {e : Nat} (h : endV r a b t = some e) (ha : a < 4) (hb : b < 4) : e < 4 := by
 unfold endV at h
 split at h
 ·cases h; exact ha
 ·split at h
  ·cases h; exact hb
  ·cases h
theorem m4n (a b : Nat) : op2 .mod (.int (((a : Nat) : Int) + ((b : Nat) : Int))) (.int 4) = .ok (.int (((a + b) % 4 : Nat) : Int)) := by
 rw [dA _ _ (by decide)]
 congr 2
theorem mK (k : Nat) {c g h : List Int} {low step : Nat} (hc : c.length = 4) (hg : g.length = 4) (hh : h.length = 4) (hl : low < 4) : Phi prog (k + 2) 5 [.lst [rowD c, rowD g, rowD h], .int (low : Nat), .int (step : Nat)] = .ok (foundD (slideV c g h low step)) := by
 show (xecs (Phi prog (k + 1)) prog.gls 1000 bU [some (false, .lst [rowD c, rowD g, rowD h]), some (false, .int (low : Nat)), some (false, .int (step : Nat)), none, none, none, none, none]).val = _
 have l0 : atD [rowD c, rowD g, rowD h] 0 = some (rowD c) := rfl
 have l1 : atD [rowD c, rowD g, rowD h] 1 = some (rowD g) := rfl
 have l2 : atD [rowD c, rowD g, rowD h] 2 = some (rowD h) := rfl
 have s1 := m4n low step
 have v1 := bO hc (e := (low + step) % 4) (Nat.mod_lt _ (by decide))
 have vl := bO hc hl
 have x1 := p_end k (a := 1) (b := 3) (t := c.getD ((low + step) % 4) 0) hg (by decide) (by decide)
 have sv : slideV c g h low step = match endV g 1 3 (c.getD ((low + step) % 4) 0) with
  | none => none
  | some j => match endV h 0 2 (g.getD ((j + step) % 4) 0) with
   | none => none
   | some q => if h.getD ((q + step) % 4) 0 = c.getD low 0 then some [low, (low + step) % 4, j, (j + step) % 4, q, (q + step) % 4] else none := rfl
 rw [sv]
 unfold bU
 generalize c.getD ((low + step) % 4) 0 = t1 at *
 generalize c.getD low 0 = t0 at *
 generalize rowD c = C at *
 cases e1 : endV g 1 3 t1 with
 | none =>
  rw [e1] at x1
  have x1' : Phi prog (k + 1) 6 [rowD g, .tup [.int 1, .int 3], .int t1] = .ok .non := x1
  generalize (((low + step) % 4 : Nat) : Int) = I at *
  generalize ((low : Nat) : Int) = P at *
  generalize ((step : Nat) : Int) = S at *
  generalize rowD g = GG at *
  generalize rowD h = HH at *
  simp only [xecs, xec, evT, ev, evs, frz, frz1, leaksT, leaks, leakss, rdR, rdV, Zc, isOwn, frsh, Ze, Zf, Zi, Zj, Zk, Zl, Zo, Zp, Zq, if_true, if_false, Bool.false_eq_true, Zu, ZA, ZI, s1, l0, l1, v1, x1']
  rfl
 | some j =>
  rw [e1] at x1
  have x1' : Phi prog (k + 1) 6 [rowD g, .tup [.int 1, .int 3], .int t1] = .ok (.int (j : Nat)) := x1
  have hj := lL e1 (by decide) (by decide)
  have s2 := m4n j step
  have v2 := bO hg (e := (j + step) % 4) (Nat.mod_lt _ (by decide))
  have x2 := p_end k (a := 0) (b := 2) (t := g.getD ((j + step) % 4) 0) hh (by decide) (by decide)
  dsimp only
  generalize g.getD ((j + step) % 4) 0 = t2 at *
  generalize rowD g = GG at *
  have nn : ∀ x : Int, op1 .isNone (.int x) = .ok (.bl false) := fun _ => rfl
  cases e2 : endV h 0 2 t2 with
  | none =>
   rw [e2] at x2
   have x2' : Phi prog (k + 1) 6 [rowD h, .tup [.int 0, .int 2], .int t2] = .ok .non := x2
   generalize (((low + step) % 4 : Nat) : Int) = I at *
   generalize (((j + step) % 4 : Nat) : Int) = RR at *
   generalize ((j : Nat) : Int) = J at *
   generalize ((low : Nat) : Int) = P at *
   generalize ((step : Nat) : Int) = S at *
   generalize rowD h = HH at *
   simp only [xecs, xec, evT, ev, evs, frz, frz1, leaksT, leaks, leakss, rdR, rdV, Za, Zc, isOwn, frsh, Ze, Zf, Zi, Zj, Zk, Zl, Zo, Zp, Zq, if_true, if_false, Bool.false_eq_true, Zu, ZA, ZI, s1, s2, l0, l1, l2, v1, v2, x1', x2', nn]
   rfl
  | some q =>
   rw [e2] at x2
   have x2' : Phi prog (k + 1) 6 [rowD h, .tup [.int 0, .int 2], .int t2] = .ok (.int (q : Nat)) := x2
   have s3 := m4n q step
   have v3 := bO hh (e := (q + step) % 4) (Nat.mod_lt _ (by decide))
   dsimp only
   generalize h.getD ((q + step) % 4) 0 = t3 at *
   have fd : foundD (some [low, (low + step) % 4, j, (j + step) % 4, q, (q + step) % 4]) = .tup [.tup [.int (low : Nat), .int ((low + step) % 4 : Nat)], .tup [.int (j : Nat), .int ((j + step) % 4 : Nat)], .tup [.int (q : Nat), .int ((q + step) % 4 : Nat)]] := rfl
   by_cases h3 : t3 = t0
   ·have q3 : (t3 == t0) = true := by simpa using h3
    rw [if_pos h3, fd]
    generalize (((low + step) % 4 : Nat) : Int) = I at *
    generalize (((j + step) % 4 : Nat) : Int) = RR at *
    generalize (((q + step) % 4 : Nat) : Int) = O at *
    generalize ((j : Nat) : Int) = J at *
    generalize ((q : Nat) : Int) = QQ at *
    generalize ((low : Nat) : Int) = P at *
    generalize ((step : Nat) : Int) = S at *
    generalize rowD h = HH at *
    simp only [xecs, xec, evT, ev, evs, frz, frz1, leaksT, leaks, leakss, rdR, rdV, Za, Zc, isOwn, frsh, Ze, Zf, Zi, Zj, Zk, Zl, Zo, Zp, Zq, if_true, if_false, Bool.false_eq_true, Zu, Zv, ZA, ZH, ZI, s1, s2, s3, l0, l1, l2, v1, v2, v3, vl, x1', x2', nn, q3]
    rfl
   ·have q3 : (t3 == t0) = false := by simpa using h3
    rw [if_neg h3]
    generalize (((low + step) % 4 : Nat) : Int) = I at *
    generalize (((j + step) % 4 : Nat) : Int) = RR at *
    generalize (((q + step) % 4 : Nat) : Int) = O at *
    generalize ((j : Nat) : Int) = J at *
    generalize ((q : Nat) : Int) = QQ at *
    generalize ((low : Nat) : Int) = P at *
    generalize ((step : Nat) : Int) = S at *
    generalize rowD h = HH at *
    simp only [xecs, xec, evT, ev, evs, frz, leaksT, leaks, leakss, rdR, rdV, Za, Zc, isOwn, frsh, Ze, Zf, Zi, Zj, Zk, Zl, Zq, if_true, if_false, Bool.false_eq_true, Zu, Zw, ZA, ZH, ZI, s1, s2, s3, l0, l1, l2, v1, v2, v3, vl, x1', x2', nn, q3]
    rfl
theorem lM (k : Nat) {Q : List (List Int)} {p : Nat × Nat} (h4 : ∀ r ∈ Q, r.length = 4) (hp : okP Q.length p) : Phi prog (k + 1) 1 [.tup (Q.map rowD), pairD p] = .ok (.int (lineV Q p)) := by
 show (xecs (Phi prog k) prog.gls 1000 cT [some (false, .tup (Q.map rowD)), some (false, pairD p)]).val = _
 have a0 : op2 .at (pairD p) (.int 0) = .ok (.int (p.1 : Nat)) := rfl
 have a1 : op2 .at (pairD p) (.int 1) = .ok (.int (p.2 : Nat)) := rfl
 have h1 := bY hp.1
 have hr : (Q.getD p.1 []).length = 4 := by
  have hl : p.1 < Q.length := hp.1
  have hq : Q.getD p.1 [] = Q[p.1] := by simp [hl]
  rw [hq]; exact h4 _ (List.getElem_mem hl)
 have h2 := bO hr hp.2
 unfold lineV
 generalize (Q.getD p.1 []).getD p.2 0 = t at *
 generalize rowD (Q.getD p.1 []) = RR at *
 generalize pairD p = PP at *
 generalize Q.map rowD = QQ at *
 simp only [cT, xecs, xec, ev, frz, leaks, rdR, rdV, Zc, Ze, Zf, Zk, Zl, Zq, if_true, ZJ, a0, a1, h1, h2]
 rfl
theorem p_opp (k : Nat) (p : Nat × Nat) : Phi prog (k + 1) 2 [pairD p] = .ok (pairD (oppV p)) := by
 show (xecs (Phi prog k) prog.gls 1000 cM [some (false, pairD p)]).val = _
 have a0 : op2 .at (pairD p) (.int 0) = .ok (.int (p.1 : Nat)) := rfl
 have a1 : op2 .at (pairD p) (.int 1) = .ok (.int (p.2 : Nat)) := rfl
 have m4 : op2 .mod (.int (((p.2 : Nat) : Int) + 2)) (.int 4) = .ok (.int (((p.2 + 2) % 4 : Nat) : Int)) := m4n p.2 2
 have e : pairD (oppV p) = .tup [.int (p.1 : Nat), .int ((p.2 + 2) % 4 : Nat)] := rfl
 rw [e]
 generalize (((p.2 + 2) % 4 : Nat) : Int) = B at *
 generalize ((p.1 : Nat) : Int) = A at *
 generalize ((p.2 : Nat) : Int) = C at *
 generalize pairD p = PP at *
 simp only [cM, xecs, xec, ev, evs, frz, leaks, leakss, rdR, rdV, Zc, Zf, Zk, Zq, if_true, ZA, a0, a1, m4]
 rfl
noncomputable def pass1 (Q L : List (List Int)) (a b : Nat × Nat) : List (List Int) := setP (setP (setP (setP L a (lineV Q (oppV b))) b (lineV Q (oppV a))) (oppV a) (lineV Q a)) (oppV b) (lineV Q a)
theorem bG (Q L : List (List Int)) (a b : Nat × Nat) : (pass1 Q L a b).length = L.length := by simp [pass1, b7]
theorem aZ {Q L : List (List Int)} {a b : Nat × Nat} (h : ∀ r ∈ L, r.length = 4) : ∀ r ∈ pass1 Q L a b, r.length = 4 := bB (bB (bB (bB h)))
noncomputable def passV (Q : List (List Int)) (x y z p i j r q o : Nat) : List (List Int) := pass1 Q (pass1 Q (pass1 Q Q (x, i) (y, j)) (x, p) (z, o)) (y, r) (z, q)
theorem eI (k : Nat) {Q L : List (List Int)} {a b : Nat × Nat} {d1 d2 d3 : Slot} {b4 : Bool} {c5 c6 c7 : Slot} (h4 : ∀ r ∈ Q, r.length = 4) (hL4 : ∀ r ∈ L, r.length = 4) (hL : L.length = Q.length) (ha : okP Q.length a) (hb : okP Q.length b) :
  loopF (Phi prog (k + 1)) prog.gls 1000 [5, 6] [(.asg 7 (.call 1 [(.var 0), (.var 5)])), (.asg 4 (.call 8 [(.var 4), (.var 5), (.call 1 [(.var 0), (.call 2 [(.var 6)])])])), (.asg 4 (.call 8 [(.var 4), (.var 6), (.call 1 [(.var 0), (.call 2 [(.var 5)])])])), (.asg 4 (.call 8 [(.var 4), (.call 2 [(.var 5)]), (.var 7)])), (.asg 4 (.call 8 [(.var 4), (.call 2 [(.var 6)]), (.var 7)]))] (.tup [pairD a, pairD b]) [some (false, .tup (Q.map rowD)), d1, d2, d3, some (b4, .lst (L.map rowD)), c5, c6, c7] =
   .nx [some (false, .tup (Q.map rowD)), d1, d2, d3, some (false, .lst ((pass1 Q L a b).map rowD)), some (false, pairD a), some (false, pairD b), some (false, .int (lineV Q a))] := by
 have oa := qD ha
 have ob := qD hb
 have q1 := lM k h4 ha
 have q2 := lM k h4 oa
 have q3 := lM k h4 ob
 have o1 := p_opp k a
 have o2 := p_opp k b
 have r1 := cV k (v := lineV Q (oppV b)) (iV (L.map rowD)) hL4 (p := a) (by rw [hL]; exact ha)
 have r2 := cV k (v := lineV Q (oppV a)) (iV ((setP L a (lineV Q (oppV b))).map rowD)) (bB hL4) (p := b) (by rw [b7, hL]; exact hb)
 have r3 := cV k (v := lineV Q a) (iV ((setP (setP L a (lineV Q (oppV b))) b (lineV Q (oppV a))).map rowD)) (bB (bB hL4)) (p := oppV a) (by rw [b7, b7, hL]; exact oa)
 have r4 := cV k (v := lineV Q a) (iV ((setP (setP (setP L a (lineV Q (oppV b))) b (lineV Q (oppV a))) (oppV a) (lineV Q a)).map rowD)) (bB (bB (bB hL4))) (p := oppV b) (by rw [b7, b7, b7, hL]; exact ob)
 unfold pass1
 generalize (setP (setP (setP (setP L a (lineV Q (oppV b))) b (lineV Q (oppV a))) (oppV a) (lineV Q a)) (oppV b) (lineV Q a)).map rowD = L4 at *
 generalize (setP (setP (setP L a (lineV Q (oppV b))) b (lineV Q (oppV a))) (oppV a) (lineV Q a)).map rowD = L3 at *
 generalize (setP (setP L a (lineV Q (oppV b))) b (lineV Q (oppV a))).map rowD = L2 at *
 generalize (setP L a (lineV Q (oppV b))).map rowD = L1 at *
 generalize L.map rowD = L0 at *
 generalize lineV Q (oppV b) = tb at *
 generalize lineV Q (oppV a) = ta at *
 generalize lineV Q a = t at *
 generalize pairD (oppV a) = OA at *
 generalize pairD (oppV b) = OB at *
 generalize pairD a = PA at *
 generalize pairD b = PB at *
 generalize Q.map rowD = QQ at *
 cases b4 <;> simp only [loopF, xecs, xec, ev, evs, frz, frz1, leaks, leakss, rdR, rdV, Zc, Py.sets, spread, isOwn, frsh, Zf, Zi, Zj, Zk, Zl, Zo, Zp, Zq, if_true, if_false, Bool.false_eq_true, Zu, q1, q2, q3, o1, o2, r1, r2, r3, r4, List.length_cons, List.length_nil, Nat.zero_add]
theorem qH (k : Nat) {Q : List (List Int)} {x y z p i j r q o : Nat} (h4 : ∀ r ∈ Q, r.length = 4) (hx : x < Q.length) (hy : y < Q.length) (hz : z < Q.length) (hp : p < 4) (hi : i < 4) (hj : j < 4) (hr : r < 4) (hq : q < 4) (ho : o < 4) :
  Phi prog (k + 2) 7 [.tup (Q.map rowD), .tup [.int (x : Nat), .int (y : Nat), .int (z : Nat)], .tup [.tup [.int (p : Nat), .int (i : Nat)], .tup [.int (j : Nat), .int (r : Nat)], .tup [.int (q : Nat), .int (o : Nat)]]] = .ok (.lst ((passV Q x y z p i j r q o).map rowD)) := by
 show (xecs (Phi prog (k + 1)) prog.gls 1000 d5 [some (false, .tup (Q.map rowD)), some (false, .tup [.int (x : Nat), .int (y : Nat), .int (z : Nat)]), some (false, .tup [.tup [.int (p : Nat), .int (i : Nat)], .tup [.int (j : Nat), .int (r : Nat)], .tup [.int (q : Nat), .int (o : Nat)]]), none, none, none, none, none]).val = _
 have n3 : ∀ a b c : D, atD [a, b, c] 0 = some a ∧ atD [a, b, c] 1 = some b ∧ atD [a, b, c] 2 = some c := fun a b c => ⟨rfl, rfl, rfl⟩
 have t1 := fun c5 c6 c7 d1 d2 d3 b4 => eI k (Q := Q) (L := Q) (a := (x, i)) (b := (y, j)) (d1 := d1) (d2 := d2) (d3 := d3) (b4 := b4) (c5 := c5) (c6 := c6) (c7 := c7) h4 h4 rfl ⟨hx, hi⟩ ⟨hy, hj⟩
 have t2 := fun c5 c6 c7 d1 d2 d3 b4 => eI k (Q := Q) (L := pass1 Q Q (x, i) (y, j)) (a := (x, p)) (b := (z, o)) (d1 := d1) (d2 := d2) (d3 := d3) (b4 := b4) (c5 := c5) (c6 := c6) (c7 := c7) h4 (aZ h4) (bG _ _ _ _) ⟨hx, hp⟩ ⟨hz, ho⟩
 have t3 := fun c5 c6 c7 d1 d2 d3 b4 => eI k (Q := Q) (L := pass1 Q (pass1 Q Q (x, i) (y, j)) (x, p) (z, o)) (a := (y, r)) (b := (z, q)) (d1 := d1) (d2 := d2) (d3 := d3) (b4 := b4) (c5 := c5) (c6 := c6) (c7 := c7) h4 (aZ (aZ h4)) (by rw [bG, bG]) ⟨hy, hr⟩ ⟨hz, hq⟩
 have i3 : itemsD .seq [.tup [.tup [pairD (x, i), pairD (y, j)], .tup [pairD (x, p), pairD (z, o)], .tup [pairD (y, r), pairD (z, q)]]] = .ok [.tup [pairD (x, i), pairD (y, j)], .tup [pairD (x, p), pairD (z, o)], .tup [pairD (y, r), pairD (z, q)]] := bW (by simp)
 have e1 : xec (Phi prog (k + 1)) prog.gls 1000 (.asg 3 (.tup [(.tup [(.tup [(.op2 .at (.var 1) (.cst (.int 0))), (.op2 .at (.op2 .at (.var 2) (.cst (.int 0))) (.cst (.int 1)))]), (.tup [(.op2 .at (.var 1) (.cst (.int 1))), (.op2 .at (.op2 .at (.var 2) (.cst (.int 1))) (.cst (.int 0)))])]), (.tup [(.tup [(.op2 .at (.var 1) (.cst (.int 0))), (.op2 .at (.op2 .at (.var 2) (.cst (.int 0))) (.cst (.int 0)))]), (.tup [(.op2 .at (.var 1) (.cst (.int 2))), (.op2 .at (.op2 .at (.var 2) (.cst (.int 2))) (.cst (.int 1)))])]), (.tup [(.tup [(.op2 .at (.var 1) (.cst (.int 1))), (.op2 .at (.op2 .at (.var 2) (.cst (.int 1))) (.cst (.int 1)))]), (.tup [(.op2 .at (.var 1) (.cst (.int 2))), (.op2 .at (.op2 .at (.var 2) (.cst (.int 2))) (.cst (.int 0)))])])])) [some (false, .tup (Q.map rowD)), some (false, .tup [.int (x : Nat), .int (y : Nat), .int (z : Nat)]), some (false, .tup [.tup [.int (p : Nat), .int (i : Nat)], .tup [.int (j : Nat), .int (r : Nat)], .tup [.int (q : Nat), .int (o : Nat)]]), none, none, none, none, none] =
   .nx [some (false, .tup (Q.map rowD)), some (false, .tup [.int (x : Nat), .int (y : Nat), .int (z : Nat)]), some (false, .tup [.tup [.int (p : Nat), .int (i : Nat)], .tup [.int (j : Nat), .int (r : Nat)], .tup [.int (q : Nat), .int (o : Nat)]]), some (false, .tup [.tup [pairD (x, i), pairD (y, j)], .tup [pairD (x, p), pairD (z, o)], .tup [pairD (y, r), pairD (z, q)]]), none, none, none, none] := by
  simp only [pairD]
  generalize ((x : Nat) : Int) = X at *
  generalize ((y : Nat) : Int) = Y at *
  generalize ((z : Nat) : Int) = Z at *
  generalize ((p : Nat) : Int) = P at *
  generalize ((i : Nat) : Int) = I at *
  generalize ((j : Nat) : Int) = J at *
  generalize ((r : Nat) : Int) = RR at *
  generalize ((q : Nat) : Int) = QQ at *
  generalize ((o : Nat) : Int) = O at *
  generalize Q.map rowD = W at *
  simp only [xec, ev, evs, frz, leaks, leakss, rdR, rdV, Zc, isOwn, frsh, Ze, Zf, Zi, Zj, Zk, Zl, Zq, if_true, Zu, ZJ, n3, at2_0, iB]
 generalize D.tup [.int (x : Nat), .int (y : Nat), .int (z : Nat)] = D1 at *
 generalize D.tup [.tup [.int (p : Nat), .int (i : Nat)], .tup [.int (j : Nat), .int (r : Nat)], .tup [.int (q : Nat), .int (o : Nat)]] = D2 at *
 unfold passV
 generalize pass1 Q (pass1 Q (pass1 Q Q (x, i) (y, j)) (x, p) (z, o)) (y, r) (z, q) = W3 at *
 generalize pass1 Q (pass1 Q Q (x, i) (y, j)) (x, p) (z, o) = W2 at *
 generalize pass1 Q Q (x, i) (y, j) = W1 at *
 have e2 : xec (Phi prog (k + 1)) prog.gls 1000 (.asg 4 (.op1 .list (.var 0))) [some (false, .tup (Q.map rowD)), some (false, D1), some (false, D2), some (false, .tup [.tup [pairD (x, i), pairD (y, j)], .tup [pairD (x, p), pairD (z, o)], .tup [pairD (y, r), pairD (z, q)]]), none, none, none, none] = .nx [some (false, .tup (Q.map rowD)), some (false, D1), some (false, D2), some (false, .tup [.tup [pairD (x, i), pairD (y, j)], .tup [pairD (x, p), pairD (z, o)], .tup [pairD (y, r), pairD (z, q)]]), some (true, .lst (Q.map rowD)), none, none, none] := by
  simp only [xec, ev, frz, leaks, rdR, rdV, Zc, isOwn, frsh, Zf, Zi, Zj, Zk, if_true, Zt, ZS]
 have e3 := cH (Φ := Phi prog (k + 1)) (G := prog.gls) (n := 1000) (k := .seq) (its := [(.var 3)]) (tg := [5, 6]) (body := [(.asg 7 (.call 1 [(.var 0), (.var 5)])), (.asg 4 (.call 8 [(.var 4), (.var 5), (.call 1 [(.var 0), (.call 2 [(.var 6)])])])), (.asg 4 (.call 8 [(.var 4), (.var 6), (.call 1 [(.var 0), (.call 2 [(.var 5)])])])), (.asg 4 (.call 8 [(.var 4), (.call 2 [(.var 5)]), (.var 7)])), (.asg 4 (.call 8 [(.var 4), (.call 2 [(.var 6)]), (.var 7)]))]) (δ := [some (false, .tup (Q.map rowD)), some (false, D1), some (false, D2), some (false, .tup [.tup [pairD (x, i), pairD (y, j)], .tup [pairD (x, p), pairD (z, o)], .tup [pairD (y, r), pairD (z, q)]]), some (true, .lst (Q.map rowD)), none, none, none]) (by simp only [ev, evs, frz, frz1, leaks, leakss, rdR, rdV, Zf, Zk, Zl, Zq, if_false, Bool.false_eq_true]; exact i3)
 have fz : frz (leakss false [(.var 3)]) [some (false, .tup (Q.map rowD)), some (false, D1), some (false, D2), some (false, .tup [.tup [pairD (x, i), pairD (y, j)], .tup [pairD (x, p), pairD (z, o)], .tup [pairD (y, r), pairD (z, q)]]), some (true, .lst (Q.map rowD)), none, none, none] = [some (false, .tup (Q.map rowD)), some (false, D1), some (false, D2), some (false, .tup [.tup [pairD (x, i), pairD (y, j)], .tup [pairD (x, p), pairD (z, o)], .tup [pairD (y, r), pairD (z, q)]]), some (true, .lst (Q.map rowD)), none, none, none] := rfl
 rw [fz, Py.forM, t1] at e3
 dsimp only at e3
 rw [Py.forM, t2] at e3
 dsimp only at e3
 rw [Py.forM, t3] at e3
 dsimp only at e3
 rw [Py.forM] at e3
 unfold d5
 rw [aG e1, aG e2, aG e3]
 simp only [xecs, xec, ev, frz, frz1, leaks, rdR, rdV, Zc, Zk, Zl, if_false, Bool.false_eq_true]
 rfl
noncomputable def firstS : List (Option (List Nat)) → Option (List Nat)
 | [] => none
 | some f :: _ => some f
 | none :: r => firstS r
noncomputable def slidesV (c g h : List Int) : Option (List Nat) := firstS [slideV c g h 0 1, slideV c g h 2 1, slideV c g h 0 3, slideV c g h 2 3]
noncomputable def six (f : List Nat) : Prop := ∃ p i j r q o, f = [p, i, j, r, q, o] ∧ p < 4 ∧ i < 4 ∧ j < 4 ∧ r < 4 ∧ q < 4 ∧ o < 4
theorem n5 {c g h : List Int} {low step : Nat} {f : List Nat} (hl : low < 4) (e : slideV c g h low step = some f) : six f := by
 unfold slideV at e
 cases e1 : endV g 1 3 (c.getD ((low + step) % 4) 0) with
 | none => rw [e1] at e; cases e
 | some j =>
  rw [e1] at e
  dsimp only at e
  cases e2 : endV h 0 2 (g.getD ((j + step) % 4) 0) with
  | none => rw [e2] at e; cases e
  | some q =>
   rw [e2] at e
   dsimp only at e
   split at e
   ·cases e
    exact ⟨_, _, _, _, _, _, rfl, hl, Nat.mod_lt _ (by decide), lL e1 (by decide) (by decide), Nat.mod_lt _ (by decide), lL e2 (by decide) (by decide), Nat.mod_lt _ (by decide)⟩
   ·cases e
noncomputable def passF (Q : List (List Int)) (x y z : Nat) : List Nat → List (List Int)
 | [p, i, j, r, q, o] => passV Q x y z p i j r q o
 | _ => []
noncomputable abbrev SB : List Sm := [(.asg 7 (.call 5 [(.var 4), (.var 6), (.var 5)])), (.ite (.leaf (.op1 .isNotNone (.var 7))) [(.ret (.call 3 [(.call 7 [(.op2 .at (.var 0) (.cst (.int 0))), (.tup [(.var 1), (.var 2), (.var 3)]), (.var 7)]), (.op2 .at (.var 0) (.cst (.int 1)))]))] [])]
theorem iE (k : Nat) {Q : List (List Int)} {g : Int} {c gg h : List Int} {low step x y z : Nat} {b4 : Bool} {c6 c7 : Slot} (hc : c.length = 4) (hg : gg.length = 4) (hh : h.length = 4) (hl : low < 4) (e : slideV c gg h low step = none) :
  loopF (Phi prog (k + 2)) prog.gls 1000 [6] SB (.int (low : Nat)) [some (false, shD Q g), some (false, .int (x : Nat)), some (false, .int (y : Nat)), some (false, .int (z : Nat)), some (b4, .lst [rowD c, rowD gg, rowD h]), some (false, .int (step : Nat)), c6, c7] = .nx [some (false, shD Q g), some (false, .int (x : Nat)), some (false, .int (y : Nat)), some (false, .int (z : Nat)), some (false, .lst [rowD c, rowD gg, rowD h]), some (false, .int (step : Nat)), some (false, .int (low : Nat)), some (false, .non)] := by
 have q := mK k (low := low) (step := step) hc hg hh hl
 rw [e] at q
 have q' : Phi prog (k + 2) 5 [.lst [rowD c, rowD gg, rowD h], .int (low : Nat), .int (step : Nat)] = .ok .non := q
 have nn : op1 .isNotNone .non = .ok (.bl false) := rfl
 generalize [rowD c, rowD gg, rowD h] = RR at *
 generalize shD Q g = S at *
 generalize ((low : Nat) : Int) = LL at *
 generalize ((step : Nat) : Int) = TT at *
 generalize ((x : Nat) : Int) = X at *
 generalize ((y : Nat) : Int) = Y at *
 generalize ((z : Nat) : Int) = Z at *
 cases b4 <;> simp only [loopF, SB, xecs, xec, evT, ev, evs, frz, frz1, leaksT, leaks, leakss, rdR, rdV, Za, Zc, Py.sets, spread, isOwn, frsh, Zf, Zi, Zj, Zk, Zl, Zo, Zp, Zq, if_true, if_false, Bool.false_eq_true, Zu, q', nn, List.length_cons, List.length_nil, Nat.zero_add]
theorem iF (k : Nat) {Q : List (List Int)} {g : Int} {c gg h : List Int} {low step x y z : Nat} {b4 : Bool} {c6 c7 : Slot} {f : List Nat} (h4 : ∀ r ∈ Q, r.length = 4) (hQ : Q.length ≤ 50) (hx : x < Q.length) (hy : y < Q.length) (hz : z < Q.length) (hc : c.length = 4) (hg : gg.length = 4) (hh : h.length = 4) (hl : low < 4) (e : slideV c gg h low step = some f) :
  loopF (Phi prog (k + 2)) prog.gls 1000 [6] SB (.int (low : Nat)) [some (false, shD Q g), some (false, .int (x : Nat)), some (false, .int (y : Nat)), some (false, .int (z : Nat)), some (b4, .lst [rowD c, rowD gg, rowD h]), some (false, .int (step : Nat)), c6, c7] = .rt (shD (numV (passF Q x y z f)) g) := by
 have q := mK k (low := low) (step := step) hc hg hh hl
 obtain ⟨p, i, j, r, qq, o, rfl, l1, l2, l3, l4, l5, l6⟩ := n5 hl e
 rw [e] at q
 have q' : Phi prog (k + 2) 5 [.lst [rowD c, rowD gg, rowD h], .int (low : Nat), .int (step : Nat)] = .ok (.tup [.tup [.int (p : Nat), .int (i : Nat)], .tup [.int (j : Nat), .int (r : Nat)], .tup [.int (qq : Nat), .int (o : Nat)]]) := q
 have ps := qH k (Q := Q) h4 hx hy hz l1 l2 l3 l4 l5 l6
 have f4 : ∀ w ∈ passV Q x y z p i j r qq o, w.length = 4 := aZ (aZ (aZ h4))
 have fl : (passV Q x y z p i j r qq o).length = Q.length := by rw [passV, bG, bG, bG]
 have hn := p_num (k + 1) (g := g) f4 (by rw [fl]; exact hQ)
 have nn : op1 .isNotNone (.tup [.tup [.int (p : Nat), .int (i : Nat)], .tup [.int (j : Nat), .int (r : Nat)], .tup [.int (qq : Nat), .int (o : Nat)]]) = .ok (.bl true) := rfl
 show _ = Out.rt (shD (numV (passV Q x y z p i j r qq o)) g)
 have a0 : op2 .at (shD Q g) (.int 0) = .ok (.tup (Q.map rowD)) := rfl
 have a1 : op2 .at (shD Q g) (.int 1) = .ok (.int g) := rfl
 generalize shD (numV (passV Q x y z p i j r qq o)) g = RES at *
 generalize (passV Q x y z p i j r qq o).map rowD = PV at *
 generalize D.tup [.tup [.int (p : Nat), .int (i : Nat)], .tup [.int (j : Nat), .int (r : Nat)], .tup [.int (qq : Nat), .int (o : Nat)]] = FF at *
 generalize [rowD c, rowD gg, rowD h] = RR at *
 generalize shD Q g = S at *
 generalize ((low : Nat) : Int) = LL at *
 generalize ((step : Nat) : Int) = TT at *
 generalize ((x : Nat) : Int) = X at *
 generalize ((y : Nat) : Int) = Y at *
 generalize ((z : Nat) : Int) = Z at *
 cases b4 <;> simp only [loopF, SB, xecs, xec, evT, ev, evs, frz, frz1, leaksT, leaks, leakss, rdR, rdV, Za, Zc, Py.sets, spread, isOwn, frsh, Zf, Zi, Zj, Zk, Zl, Zo, Zp, Zq, if_true, if_false, Bool.false_eq_true, Zu, q', nn, a0, a1, ps, hn, List.length_cons, List.length_nil, Nat.zero_add]
theorem kC (k : Nat) {Q : List (List Int)} {g : Int} {c gg h : List Int} {step x y z : Nat} {b4 : Bool} {c6 c7 : Slot} (h4 : ∀ r ∈ Q, r.length = 4) (hQ : Q.length ≤ 50) (hx : x < Q.length) (hy : y < Q.length) (hz : z < Q.length) (hc : c.length = 4) (hg : gg.length = 4) (hh : h.length = 4) :
  xec (Phi prog (k + 2)) prog.gls 1000 (.loop .seq [(.tup [(.cst (.int 0)), (.cst (.int 2))])] [6] SB) [some (false, shD Q g), some (false, .int (x : Nat)), some (false, .int (y : Nat)), some (false, .int (z : Nat)), some (b4, .lst [rowD c, rowD gg, rowD h]), some (false, .int (step : Nat)), c6, c7] = match firstS [slideV c gg h 0 step, slideV c gg h 2 step] with
   | some f => .rt (shD (numV (passF Q x y z f)) g)
   | none => .nx [some (false, shD Q g), some (false, .int (x : Nat)), some (false, .int (y : Nat)), some (false, .int (z : Nat)), some (false, .lst [rowD c, rowD gg, rowD h]), some (false, .int (step : Nat)), some (false, .int 2), some (false, .non)] := by
 have el := cH (Φ := Phi prog (k + 2)) (G := prog.gls) (n := 1000) (k := .seq) (its := [(.tup [(.cst (.int 0)), (.cst (.int 2))])]) (tg := [6]) (body := SB) (δ := [some (false, shD Q g), some (false, .int (x : Nat)), some (false, .int (y : Nat)), some (false, .int (z : Nat)), some (b4, .lst [rowD c, rowD gg, rowD h]), some (false, .int (step : Nat)), c6, c7]) (xs := [.int ((0 : Nat) : Int), .int ((2 : Nat) : Int)]) rfl
 have fz : frz (leakss false [(.tup [(.cst (.int 0)), (.cst (.int 2))])]) [some (false, shD Q g), some (false, .int (x : Nat)), some (false, .int (y : Nat)), some (false, .int (z : Nat)), some (b4, .lst [rowD c, rowD gg, rowD h]), some (false, .int (step : Nat)), c6, c7] = [some (false, shD Q g), some (false, .int (x : Nat)), some (false, .int (y : Nat)), some (false, .int (z : Nat)), some (b4, .lst [rowD c, rowD gg, rowD h]), some (false, .int (step : Nat)), c6, c7] := rfl
 rw [el, fz, Py.forM]
 cases e1 : slideV c gg h 0 step with
 | some f =>
  rw [iF k h4 hQ hx hy hz hc hg hh (by decide) e1]
  rfl
 | none =>
  rw [iE k hc hg hh (by decide) e1]
  dsimp only
  rw [Py.forM]
  cases e2 : slideV c gg h 2 step with
  | some f =>
   rw [iF k h4 hQ hx hy hz hc hg hh (by decide) e2]
   rfl
  | none =>
   rw [iE k hc hg hh (by decide) e2]
   dsimp only
   rw [Py.forM]
   rfl
noncomputable abbrev outR (Q : List (List Int)) (x : Int) : Prop := x < 0 ∨ (Q.length : Int) ≤ x
theorem qI (k : Nat) {Q : List (List Int)} {g x y z : Int} : ev (Phi prog (k + 1)) prog.gls false (.mapx (.tup [(.var 1), (.var 2), (.var 3)]) [0] 0 [(.var 1), (.var 0)]) [some (false, shD Q g), some (false, .int x), some (false, .int y), some (false, .int z), none, none, none, none] =
  (Phi prog (k + 1) 0 [shD Q g, .int x]).bind fun a => (Phi prog (k + 1) 0 [shD Q g, .int y]).bind fun b => (Phi prog (k + 1) 0 [shD Q g, .int z]).bind fun c => .ok (.lst [a, b, c]) := by
 have hi : itemsD .seq [.tup [.int x, .int y, .int z]] = .ok [.int x, .int y, .int z] := bW (by simp)
 generalize shD Q g = S
 simp only [ev, evs, rdR, rdV, capOf, Zf, Zk, Zl, Zm, Zn, if_false, Bool.false_eq_true, Zx, hi, compM]
 cases Phi prog (k + 1) 0 [S, .int x] with
 | exc c => rfl
 | bad => rfl
 | ok a =>
  simp only [fZ]
  cases Phi prog (k + 1) 0 [S, .int y] with
  | exc c => rfl
  | bad => rfl
  | ok b =>
   simp only [fZ]
   cases Phi prog (k + 1) 0 [S, .int z] with
   | exc c => rfl
   | bad => rfl
   | ok c => rfl
theorem cI {Q : List (List Int)} {x : Int} (h4 : ∀ r ∈ Q, r.length = 4) (hx : ¬ outR Q x) : (Q.getD x.toNat []).length = 4 := by
 have hl : x.toNat < Q.length := by omega
 have : Q.getD x.toNat [] = Q[x.toNat] := by simp [hl]
 rw [this]; exact h4 _ (List.getElem_mem hl)
noncomputable def answV (Q : List (List Int)) (g : Int) (x y z : Nat) : Option (List Nat) → R D
 | some f => .ok (shD (numV (passF Q x y z f)) g)
 | none => .exc 1
theorem p_slid (k : Nat) {Q : List (List Int)} {g x y z : Int} (h4 : ∀ r ∈ Q, r.length = 4) (hQ : Q.length ≤ 50) :
  Phi prog (k + 3) 4 [shD Q g, .int x, .int y, .int z] = if outR Q x ∨ outR Q y ∨ outR Q z then .exc 0 else if x = y ∨ x = z ∨ y = z then .exc 1 else answV Q g x.toNat y.toNat z.toNat (slidesV (Q.getD x.toNat []) (Q.getD y.toNat []) (Q.getD z.toNat [])) := by
 show (xecs (Phi prog (k + 2)) prog.gls 1000 i4 [some (false, shD Q g), some (false, .int x), some (false, .int y), some (false, .int z), none, none, none, none]).val = _
 have ex := p_at (k + 1) (Q := Q) (g := g) (x := x)
 have ey := p_at (k + 1) (Q := Q) (g := g) (x := y)
 have ez := p_at (k + 1) (Q := Q) (g := g) (x := z)
 have tr := qI (k + 1) (Q := Q) (g := g) (x := x) (y := y) (z := z)
 have fz : frz (leaks false (.mapx (.tup [(.var 1), (.var 2), (.var 3)]) [0] 0 [(.var 1), (.var 0)])) [some (false, shD Q g), some (false, .int x), some (false, .int y), some (false, .int z), none, none, none, none] = [some (false, shD Q g), some (false, .int x), some (false, .int y), some (false, .int z), none, none, none, none] := rfl
 have st : xec (Phi prog (k + 2)) prog.gls 1000 (.asg 4 (.mapx (.tup [(.var 1), (.var 2), (.var 3)]) [0] 0 [(.var 1), (.var 0)])) [some (false, shD Q g), some (false, .int x), some (false, .int y), some (false, .int z), none, none, none, none] = Out.of ((Phi prog (k + 2) 0 [shD Q g, .int x]).bind fun a => (Phi prog (k + 2) 0 [shD Q g, .int y]).bind fun b => (Phi prog (k + 2) 0 [shD Q g, .int z]).bind fun c => .ok (.lst [a, b, c])) [some (false, shD Q g), some (false, .int x), some (false, .int y), some (false, .int z), none, none, none, none] fun d => .nx [some (false, shD Q g), some (false, .int x), some (false, .int y), some (false, .int z), some (true && isOwn d, d), none, none, none] := by
  rw [xec, fz, tr]; rfl
 unfold i4
 by_cases hx : outR Q x
 ·rw [if_pos (.inl hx)]
  rw [if_pos hx] at ex
  rw [ex, R.bind_exc] at st
  rw [fA st]; rfl
 rw [if_neg hx] at ex
 by_cases hy : outR Q y
 ·rw [if_pos (.inr (.inl hy))]
  rw [if_pos hy] at ey
  rw [ex, ey, R.bind_ok, R.bind_exc] at st
  rw [fA st]; rfl
 rw [if_neg hy] at ey
 by_cases hz : outR Q z
 ·rw [if_pos (.inr (.inr hz))]
  rw [if_pos hz] at ez
  rw [ex, ey, ez, R.bind_ok, R.bind_ok, R.bind_exc] at st
  rw [fA st]; rfl
 rw [if_neg hz] at ez
 rw [if_neg (fun w => w.elim hx fun w => w.elim hy hz)]
 rw [ex, ey, ez, R.bind_ok, R.bind_ok, R.bind_ok, of_ok] at st
 have fc := cI h4 hx
 have fg := cI h4 hy
 have fh := cI h4 hz
 have st' : xec (Phi prog (k + 2)) prog.gls 1000 (.asg 4 (.mapx (.tup [(.var 1), (.var 2), (.var 3)]) [0] 0 [(.var 1), (.var 0)])) [some (false, shD Q g), some (false, .int x), some (false, .int y), some (false, .int z), none, none, none, none] = .nx [some (false, shD Q g), some (false, .int x), some (false, .int y), some (false, .int z), some (true, .lst [rowD (Q.getD x.toNat []), rowD (Q.getD y.toNat []), rowD (Q.getD z.toNat [])]), none, none, none] := st
 rw [aG st']
 generalize Q.getD x.toNat [] = c at *
 generalize Q.getD y.toNat [] = gg at *
 generalize Q.getD z.toNat [] = h at *
 by_cases hs : x = y ∨ x = z ∨ y = z
 ·rw [if_pos hs]
  have e2 : xec (Phi prog (k + 2)) prog.gls 1000 (.ite (.or (.leaf (.op2 .eq (.var 1) (.var 2))) (.or (.leaf (.op2 .eq (.var 1) (.var 3))) (.leaf (.op2 .eq (.var 2) (.var 3))))) [(.rai 1)] []) [some (false, shD Q g), some (false, .int x), some (false, .int y), some (false, .int z), some (true, .lst [rowD c, rowD gg, rowD h]), none, none, none] = .xc 1 [some (false, shD Q g), some (false, .int x), some (false, .int y), some (false, .int z), some (true, .lst [rowD c, rowD gg, rowD h]), none, none, none] := by
   generalize [rowD c, rowD gg, rowD h] = RR
   by_cases h1 : x = y
   ·have q1 : (x == y) = true := by simpa using h1
    simp only [xecs, xec, evT, ev, frz, leaksT, leaks, rdR, rdV, Za, Zc, Zf, Zk, Zl, Zq, if_true, ZG, q1]
   ·have q1 : (x == y) = false := by simpa using h1
    by_cases h2 : x = z
    ·have q2 : (x == z) = true := by simpa using h2
     simp only [xecs, xec, evT, ev, frz, leaksT, leaks, rdR, rdV, Za, Zc, Zf, Zk, Zl, Zq, if_true, if_false, Bool.false_eq_true, ZG, q1, q2]
    ·have q2 : (x == z) = false := by simpa using h2
     have q3 : (y == z) = true := by simpa using (hs.resolve_left h1).resolve_left h2
     simp only [xecs, xec, evT, ev, frz, leaksT, leaks, rdR, rdV, Za, Zc, Zf, Zk, Zl, Zq, if_true, if_false, Bool.false_eq_true, ZG, q1, q2, q3]
  rw [fA e2]; rfl
 ·rw [if_neg hs]
  have q1 : (x == y) = false := by simpa using fun e => hs (.inl e)
  have q2 : (x == z) = false := by simpa using fun e => hs (.inr (.inl e))
  have q3 : (y == z) = false := by simpa using fun e => hs (.inr (.inr e))
  have e2 : xec (Phi prog (k + 2)) prog.gls 1000 (.ite (.or (.leaf (.op2 .eq (.var 1) (.var 2))) (.or (.leaf (.op2 .eq (.var 1) (.var 3))) (.leaf (.op2 .eq (.var 2) (.var 3))))) [(.rai 1)] []) [some (false, shD Q g), some (false, .int x), some (false, .int y), some (false, .int z), some (true, .lst [rowD c, rowD gg, rowD h]), none, none, none] = .nx [some (false, shD Q g), some (false, .int x), some (false, .int y), some (false, .int z), some (true, .lst [rowD c, rowD gg, rowD h]), none, none, none] := by
   generalize [rowD c, rowD gg, rowD h] = RR
   simp only [xecs, xec, evT, ev, frz, leaksT, leaks, rdR, rdV, Za, Zc, Zf, Zk, Zl, Zq, if_true, if_false, Bool.false_eq_true, ZG, q1, q2, q3]
  rw [aG e2]
  obtain ⟨X, rfl⟩ : ∃ X : Nat, x = (X : Nat) := ⟨x.toNat, by omega⟩
  obtain ⟨Y, rfl⟩ : ∃ Y : Nat, y = (Y : Nat) := ⟨y.toNat, by omega⟩
  obtain ⟨Z, rfl⟩ : ∃ Z : Nat, z = (Z : Nat) := ⟨z.toNat, by omega⟩
  simp only [Int.toNat_natCast]
  have l1 := fun b4 c6 c7 => kC k (Q := Q) (g := g) (c := c) (gg := gg) (h := h) (step := 1) (x := X) (y := Y) (z := Z) (b4 := b4) (c6 := c6) (c7 := c7) h4 hQ (by omega) (by omega) (by omega) fc fg fh
  have l3 := fun b4 c6 c7 => kC k (Q := Q) (g := g) (c := c) (gg := gg) (h := h) (step := 3) (x := X) (y := Y) (z := Z) (b4 := b4) (c6 := c6) (c7 := c7) h4 hQ (by omega) (by omega) (by omega) fc fg fh
  have el := cH (Φ := Phi prog (k + 2)) (G := prog.gls) (n := 1000) (k := .seq) (its := [(.tup [(.cst (.int 1)), (.cst (.int 3))])]) (tg := [5]) (body := [(.loop .seq [(.tup [(.cst (.int 0)), (.cst (.int 2))])] [6] SB)]) (δ := [some (false, shD Q g), some (false, .int (X : Nat)), some (false, .int (Y : Nat)), some (false, .int (Z : Nat)), some (true, .lst [rowD c, rowD gg, rowD h]), none, none, none]) (xs := [.int ((1 : Nat) : Int), .int ((3 : Nat) : Int)]) rfl
  have fz2 : frz (leakss false [(.tup [(.cst (.int 1)), (.cst (.int 3))])]) [some (false, shD Q g), some (false, .int (X : Nat)), some (false, .int (Y : Nat)), some (false, .int (Z : Nat)), some (true, .lst [rowD c, rowD gg, rowD h]), none, none, none] = [some (false, shD Q g), some (false, .int (X : Nat)), some (false, .int (Y : Nat)), some (false, .int (Z : Nat)), some (true, .lst [rowD c, rowD gg, rowD h]), none, none, none] := rfl
  have b1 : ∀ (t : Nat) (b4 : Bool) (c5 c6 c7 : Slot), loopF (Phi prog (k + 2)) prog.gls 1000 [5] [(.loop .seq [(.tup [(.cst (.int 0)), (.cst (.int 2))])] [6] SB)] (.int (t : Nat)) [some (false, shD Q g), some (false, .int (X : Nat)), some (false, .int (Y : Nat)), some (false, .int (Z : Nat)), some (b4, .lst [rowD c, rowD gg, rowD h]), c5, c6, c7] = xecs (Phi prog (k + 2)) prog.gls 1000 [(.loop .seq [(.tup [(.cst (.int 0)), (.cst (.int 2))])] [6] SB)] [some (false, shD Q g), some (false, .int (X : Nat)), some (false, .int (Y : Nat)), some (false, .int (Z : Nat)), some (b4, .lst [rowD c, rowD gg, rowD h]), some (false, .int (t : Nat)), c6, c7] := fun _ _ _ _ _ => rfl
  rw [fz2, Py.forM, b1] at el
  unfold slidesV
  cases a1 : slideV c gg h 0 1 with
  | some f =>
   rw [a1] at l1
   rw [bJ (l1 _ _ _)] at el
   rw [bJ el]; rfl
  | none =>
   cases a2 : slideV c gg h 2 1 with
   | some f =>
    rw [a1, a2] at l1
    rw [bJ (l1 _ _ _)] at el
    rw [bJ el]; rfl
   | none =>
    rw [a1, a2] at l1
    rw [aG (l1 _ _ _), xecs] at el
    dsimp only at el
    rw [Py.forM, b1] at el
    cases a3 : slideV c gg h 0 3 with
    | some f =>
     rw [a3] at l3
     rw [bJ (l3 _ _ _)] at el
     rw [bJ el]; rfl
    | none =>
     cases a4 : slideV c gg h 2 3 with
     | some f =>
      rw [a3, a4] at l3
      rw [bJ (l3 _ _ _)] at el
      rw [bJ el]; rfl
     | none =>
      rw [a3, a4] at l3
      rw [aG (l3 _ _ _), xecs] at el
      dsimp only at el
      rw [Py.forM] at el
      rw [aG el]
      rfl
noncomputable def toldV : R D → R D
 | .ok d => .ok (.tup [d, .lst []])
 | .exc 0 => .ok (.tup [.non, marksD 2])
 | .exc 1 => .ok (.tup [.non, marksD 3])
 | _ => .bad
theorem i6 (k : Nat) {a b c d : D} (h : (∃ x, Phi prog k 4 [a, b, c, d] = .ok x) ∨ ∃ e, e < 2 ∧ Phi prog k 4 [a, b, c, d] = .exc e) : Phi prog (k + 1) 16 [a, b, c, d] = toldV (Phi prog k 4 [a, b, c, d]) := by
 show (xecs (Phi prog k) prog.gls 1000 b8 [some (false, a), some (false, b), some (false, c), some (false, d), none, none, none]).val = _
 rcases h with ⟨x, he⟩ | ⟨e, h3, he⟩
 ·rw [he]
  simp only [b8, xecs, xec, ev, evs, frz, frz1, leaks, leakss, rdR, rdV, Zc, isOwn, frsh, Zf, Zi, Zj, Zk, Zl, Zo, Zp, Zq, if_false, Bool.false_eq_true, Zt, Zu, he]
  rfl
 ·have : e = 0 ∨ e = 1 := by omega
  rcases this with rfl | rfl <;> rw [he] <;> simp only [b8, xecs, xec, ev, evs, frz, frz1, leaks, leakss, rdR, rdV, Zc, Zd, isOwn, frsh, Zf, Zi, Zj, Zk, Zl, Zo, Zp, Zq, if_true, if_false, Bool.false_eq_true, Zt, Zu, he] <;> rfl
noncomputable def tryV (c g h : List Int) (step p j q : Nat) : Option (List Nat) := if g.getD j 0 = c.getD ((p + step) % 4) 0 ∧ h.getD q 0 = g.getD ((j + step) % 4) 0 ∧ h.getD ((q + step) % 4) 0 = c.getD p 0 then some [p, (p + step) % 4, j, (j + step) % 4, q, (q + step) % 4] else none
noncomputable def lstN (f : List Nat) : D := .lst (f.map fun (e : Nat) => .int (e : Nat))
theorem n6 : ∀ (a b : List (Option (List Nat))), firstS (a ++ b) = match firstS a with | some f => some f | none => firstS b
 | [], b => rfl
 | some f :: r, b => rfl
 | none :: r, b => by show firstS (r ++ b) = _; rw [n6 r b]; rfl
noncomputable abbrev LQ : List Sm := [(.ite (.and (.leaf (.op2 .eq (.op2 .at (.var 1) (.var 6)) (.op2 .at (.var 0) (.var 5)))) (.and (.leaf (.op2 .eq (.op2 .at (.var 2) (.var 8)) (.op2 .at (.var 1) (.var 7)))) (.leaf (.op2 .eq (.op2 .at (.var 2) (.op2 .mod (.op2 .add (.var 8) (.var 3)) (.cst (.int 4)))) (.op2 .at (.var 0) (.var 4)))))) [(.ret (.lst [(.var 4), (.var 5), (.var 6), (.var 7), (.var 8), (.op2 .mod (.op2 .add (.var 8) (.var 3)) (.cst (.int 4)))]))] [])]
noncomputable abbrev LJ : List Sm := [(.asg 7 (.op2 .mod (.op2 .add (.var 6) (.var 3)) (.cst (.int 4)))), (.loop .seq [(.lst [(.cst (.int 0)), (.cst (.int 2))])] [8] LQ)]
noncomputable abbrev LP : List Sm := [(.asg 5 (.op2 .mod (.op2 .add (.var 4) (.var 3)) (.cst (.int 4)))), (.loop .seq [(.lst [(.cst (.int 1)), (.cst (.int 3))])] [6] LJ)]
theorem qJ {Φ : Nat → List D → R D} {G : List D} {c g h : List Int} {step p j q : Nat} {c8 : Slot} (hc : c.length = 4) (hg : g.length = 4) (hh : h.length = 4) (hp : p < 4) (hj : j < 4) (hq : q < 4) :
  loopF Φ G 1000 [8] LQ (.int (q : Nat)) [some (false, rowD c), some (false, rowD g), some (false, rowD h), some (false, .int (step : Nat)), some (false, .int (p : Nat)), some (false, .int ((p + step) % 4 : Nat)), some (false, .int (j : Nat)), some (false, .int ((j + step) % 4 : Nat)), c8] = match tryV c g h step p j q with
   | some f => .rt (lstN f)
   | none => .nx [some (false, rowD c), some (false, rowD g), some (false, rowD h), some (false, .int (step : Nat)), some (false, .int (p : Nat)), some (false, .int ((p + step) % 4 : Nat)), some (false, .int (j : Nat)), some (false, .int ((j + step) % 4 : Nat)), some (false, .int (q : Nat))] := by
 have lt : ∀ n, n % 4 < 4 := fun n => Nat.mod_lt _ (by decide)
 have a1 := bO hg hj
 have a2 := bO hc (lt (p + step))
 have a3 := bO hh hq
 have a4 := bO hg (lt (j + step))
 have a5 := bO hh (lt (q + step))
 have a6 := bO hc hp
 have m1 := m4n q step
 unfold tryV
 have fd : lstN [p, (p + step) % 4, j, (j + step) % 4, q, (q + step) % 4] = .lst [.int (p : Nat), .int ((p + step) % 4 : Nat), .int (j : Nat), .int ((j + step) % 4 : Nat), .int (q : Nat), .int ((q + step) % 4 : Nat)] := rfl
 generalize g.getD j 0 = v1 at *
 generalize c.getD ((p + step) % 4) 0 = v2 at *
 generalize h.getD q 0 = v3 at *
 generalize g.getD ((j + step) % 4) 0 = v4 at *
 generalize h.getD ((q + step) % 4) 0 = v5 at *
 generalize c.getD p 0 = v6 at *
 generalize rowD c = C at *
 generalize rowD g = GG at *
 generalize rowD h = HH at *
 by_cases h1 : v1 = v2
 ·have q1 : (v1 == v2) = true := by simpa using h1
  by_cases h2 : v3 = v4
  ·have q2 : (v3 == v4) = true := by simpa using h2
   by_cases h3 : v5 = v6
   ·have q3 : (v5 == v6) = true := by simpa using h3
    rw [if_pos ⟨h1, h2, h3⟩]
    dsimp only
    rw [fd]
    generalize (((p + step) % 4 : Nat) : Int) = I at *
    generalize (((j + step) % 4 : Nat) : Int) = RR at *
    generalize (((q + step) % 4 : Nat) : Int) = O at *
    generalize ((j : Nat) : Int) = J at *
    generalize ((q : Nat) : Int) = QQ at *
    generalize ((p : Nat) : Int) = P at *
    generalize ((step : Nat) : Int) = S at *
    simp only [loopF, LQ, xecs, xec, evT, ev, evs, frz, frz1, leaksT, leaks, leakss, rdR, rdV, Za, Zc, Py.sets, spread, Zf, Zi, Zj, Zk, Zl, Zo, Zp, Zq, if_true, if_false, Bool.false_eq_true, ZA, ZG, m1, a1, a2, a3, a4, a5, a6, q1, q2, q3, List.length_cons, List.length_nil, Nat.zero_add]
   ·have q3 : (v5 == v6) = false := by simpa using h3
    rw [if_neg fun w => h3 w.2.2]
    dsimp only
    generalize (((p + step) % 4 : Nat) : Int) = I at *
    generalize (((j + step) % 4 : Nat) : Int) = RR at *
    generalize (((q + step) % 4 : Nat) : Int) = O at *
    generalize ((j : Nat) : Int) = J at *
    generalize ((q : Nat) : Int) = QQ at *
    generalize ((p : Nat) : Int) = P at *
    generalize ((step : Nat) : Int) = S at *
    simp only [loopF, LQ, xecs, xec, evT, ev, evs, frz, frz1, leaksT, leaks, leakss, rdR, rdV, Za, Zc, Py.sets, spread, Zf, Zi, Zj, Zk, Zl, Zo, Zp, Zq, if_true, if_false, Bool.false_eq_true, ZA, ZG, m1, a1, a2, a3, a4, a5, a6, q1, q2, q3, List.length_cons, List.length_nil, Nat.zero_add]
  ·have q2 : (v3 == v4) = false := by simpa using h2
   rw [if_neg fun w => h2 w.2.1]
   dsimp only
   generalize (((p + step) % 4 : Nat) : Int) = I at *
   generalize (((j + step) % 4 : Nat) : Int) = RR at *
   generalize (((q + step) % 4 : Nat) : Int) = O at *
   generalize ((j : Nat) : Int) = J at *
   generalize ((q : Nat) : Int) = QQ at *
   generalize ((p : Nat) : Int) = P at *
   generalize ((step : Nat) : Int) = S at *
   simp only [loopF, LQ, xecs, xec, evT, ev, evs, frz, frz1, leaksT, leaks, leakss, rdR, rdV, Za, Zc, Py.sets, spread, Zf, Zi, Zj, Zk, Zl, Zo, Zp, Zq, if_true, if_false, Bool.false_eq_true, ZA, ZG, m1, a1, a2, a3, a4, a5, a6, q1, q2, List.length_cons, List.length_nil, Nat.zero_add]
 ·have q1 : (v1 == v2) = false := by simpa using h1
  rw [if_neg fun w => h1 w.1]
  dsimp only
  generalize (((p + step) % 4 : Nat) : Int) = I at *
  generalize (((j + step) % 4 : Nat) : Int) = RR at *
  generalize (((q + step) % 4 : Nat) : Int) = O at *
  generalize ((j : Nat) : Int) = J at *
  generalize ((q : Nat) : Int) = QQ at *
  generalize ((p : Nat) : Int) = P at *
  generalize ((step : Nat) : Int) = S at *
  simp only [loopF, LQ, xecs, xec, evT, ev, evs, frz, frz1, leaksT, leaks, leakss, rdR, rdV, Za, Zc, Py.sets, spread, Zf, Zi, Zj, Zk, Zl, Zo, Zp, Zq, if_true, if_false, Bool.false_eq_true, ZA, ZG, m1, a1, a2, a3, a4, a5, a6, q1, List.length_cons, List.length_nil, Nat.zero_add]
theorem cW {Φ : Nat → List D → R D} {G : List D} {tg : List Nat} {body : List Sm} {its : List Ex} {δ : Sto} {x1 x2 : D} {P : Sto → Prop} {A B : Option (List Nat)} (hits : (evs Φ G false its (frz (leakss false its) δ)).bind (itemsD .seq) = .ok [x1, x2]) (hf : frz (leakss false its) δ = δ) (h0 : P δ)
  (h1 : ∀ δ, P δ → (∃ f, A = some f ∧ loopF Φ G 1000 tg body x1 δ = .rt (lstN f)) ∨ (A = none ∧ ∃ δ', P δ' ∧ loopF Φ G 1000 tg body x1 δ = .nx δ'))
  (h2 : ∀ δ, P δ → (∃ f, B = some f ∧ loopF Φ G 1000 tg body x2 δ = .rt (lstN f)) ∨ (B = none ∧ ∃ δ', P δ' ∧ loopF Φ G 1000 tg body x2 δ = .nx δ')) :
  (∃ f, firstS [A, B] = some f ∧ xec Φ G 1000 (.loop .seq its tg body) δ = .rt (lstN f)) ∨ (firstS [A, B] = none ∧ ∃ δ', P δ' ∧ xec Φ G 1000 (.loop .seq its tg body) δ = .nx δ') := by
 rw [cH hits, hf, Py.forM]
 rcases h1 δ h0 with ⟨f, rfl, e⟩ | ⟨rfl, δ', p', e⟩
 ·rw [e]; exact .inl ⟨f, rfl, rfl⟩
 ·rw [e]
  dsimp only
  rw [Py.forM]
  rcases h2 δ' p' with ⟨f, rfl, e⟩ | ⟨rfl, δ2, p2, e⟩
  ·rw [e]; exact .inl ⟨f, rfl, rfl⟩
  ·rw [e]
   dsimp only
   rw [Py.forM]
   exact .inr ⟨rfl, δ2, p2, rfl⟩
theorem qK {Φ : Nat → List D → R D} {G : List D} {c g h : List Int} {step p j : Nat} (hc : c.length = 4) (hg : g.length = 4) (hh : h.length = 4) (hp : p < 4) (hj : j < 4) (δ : Sto) (hδ : ∃ c6 c7 c8, δ = [some (false, rowD c), some (false, rowD g), some (false, rowD h), some (false, .int (step : Nat)), some (false, .int (p : Nat)), some (false, .int ((p + step) % 4 : Nat)), c6, c7, c8]) :
  (∃ f, firstS [tryV c g h step p j 0, tryV c g h step p j 2] = some f ∧ loopF Φ G 1000 [6] LJ (.int (j : Nat)) δ = .rt (lstN f)) ∨ (firstS [tryV c g h step p j 0, tryV c g h step p j 2] = none ∧ ∃ δ', (∃ c6 c7 c8, δ' = [some (false, rowD c), some (false, rowD g), some (false, rowD h), some (false, .int (step : Nat)), some (false, .int (p : Nat)), some (false, .int ((p + step) % 4 : Nat)), c6, c7, c8]) ∧ loopF Φ G 1000 [6] LJ (.int (j : Nat)) δ = .nx δ') := by
 obtain ⟨c6, c7, c8, rfl⟩ := hδ
 have m1 := m4n j step
 have e1 : xec Φ G 1000 (.asg 7 (.op2 .mod (.op2 .add (.var 6) (.var 3)) (.cst (.int 4)))) [some (false, rowD c), some (false, rowD g), some (false, rowD h), some (false, .int (step : Nat)), some (false, .int (p : Nat)), some (false, .int ((p + step) % 4 : Nat)), some (false, .int (j : Nat)), c7, c8] = .nx [some (false, rowD c), some (false, rowD g), some (false, rowD h), some (false, .int (step : Nat)), some (false, .int (p : Nat)), some (false, .int ((p + step) % 4 : Nat)), some (false, .int (j : Nat)), some (false, .int ((j + step) % 4 : Nat)), c8] := by
  generalize (((p + step) % 4 : Nat) : Int) = I at *
  generalize (((j + step) % 4 : Nat) : Int) = RR at *
  generalize ((j : Nat) : Int) = J at *
  generalize ((p : Nat) : Int) = P at *
  generalize ((step : Nat) : Int) = S at *
  simp only [xec, ev, frz, leaks, rdR, rdV, Zc, isOwn, frsh, Zf, Zi, Zj, Zk, Zl, Zq, if_true, Zu, ZA, m1]
 have tt := cW (Φ := Φ) (G := G) (tg := [8]) (body := LQ) (its := [(.lst [(.cst (.int 0)), (.cst (.int 2))])]) (δ := [some (false, rowD c), some (false, rowD g), some (false, rowD h), some (false, .int (step : Nat)), some (false, .int (p : Nat)), some (false, .int ((p + step) % 4 : Nat)), some (false, .int (j : Nat)), some (false, .int ((j + step) % 4 : Nat)), c8]) (x1 := .int ((0 : Nat) : Int)) (x2 := .int ((2 : Nat) : Int)) (A := tryV c g h step p j 0) (B := tryV c g h step p j 2)
  (P := fun δ => ∃ c8, δ = [some (false, rowD c), some (false, rowD g), some (false, rowD h), some (false, .int (step : Nat)), some (false, .int (p : Nat)), some (false, .int ((p + step) % 4 : Nat)), some (false, .int (j : Nat)), some (false, .int ((j + step) % 4 : Nat)), c8]) rfl rfl ⟨c8, rfl⟩
  (fun δ ⟨c8, e⟩ => by
   subst e
   rw [qJ hc hg hh hp hj (by decide)]
   cases tryV c g h step p j 0 with
   | some f => exact .inl ⟨f, rfl, rfl⟩
   | none => exact .inr ⟨rfl, _, ⟨_, rfl⟩, rfl⟩)
  (fun δ ⟨c8, e⟩ => by
   subst e
   rw [qJ hc hg hh hp hj (by decide)]
   cases tryV c g h step p j 2 with
   | some f => exact .inl ⟨f, rfl, rfl⟩
   | none => exact .inr ⟨rfl, _, ⟨_, rfl⟩, rfl⟩)
 have el : loopF Φ G 1000 [6] LJ (.int (j : Nat)) [some (false, rowD c), some (false, rowD g), some (false, rowD h), some (false, .int (step : Nat)), some (false, .int (p : Nat)), some (false, .int ((p + step) % 4 : Nat)), c6, c7, c8] = xecs Φ G 1000 LJ [some (false, rowD c), some (false, rowD g), some (false, rowD h), some (false, .int (step : Nat)), some (false, .int (p : Nat)), some (false, .int ((p + step) % 4 : Nat)), some (false, .int (j : Nat)), c7, c8] := rfl
 rw [el]
 unfold LJ
 rw [aG e1]
 rcases tt with ⟨f, e, t⟩ | ⟨e, δ', ⟨c8', rfl⟩, t⟩
 ·exact .inl ⟨f, e, by rw [bJ t]⟩
 ·exact .inr ⟨e, _, ⟨_, _, _, rfl⟩, by rw [aG t, xecs]⟩
theorem qM {Φ : Nat → List D → R D} {G : List D} {c g h : List Int} {step p : Nat} (hc : c.length = 4) (hg : g.length = 4) (hh : h.length = 4) (hp : p < 4) (δ : Sto) (hδ : ∃ c4 c5 c6 c7 c8, δ = [some (false, rowD c), some (false, rowD g), some (false, rowD h), some (false, .int (step : Nat)), c4, c5, c6, c7, c8]) :
  (∃ f, firstS [firstS [tryV c g h step p 1 0, tryV c g h step p 1 2], firstS [tryV c g h step p 3 0, tryV c g h step p 3 2]] = some f ∧ loopF Φ G 1000 [4] LP (.int (p : Nat)) δ = .rt (lstN f)) ∨ (firstS [firstS [tryV c g h step p 1 0, tryV c g h step p 1 2], firstS [tryV c g h step p 3 0, tryV c g h step p 3 2]] = none ∧ ∃ δ', (∃ c4 c5 c6 c7 c8, δ' = [some (false, rowD c), some (false, rowD g), some (false, rowD h), some (false, .int (step : Nat)), c4, c5, c6, c7, c8]) ∧ loopF Φ G 1000 [4] LP (.int (p : Nat)) δ = .nx δ') := by
 obtain ⟨c4, c5, c6, c7, c8, rfl⟩ := hδ
 have m1 := m4n p step
 have e1 : xec Φ G 1000 (.asg 5 (.op2 .mod (.op2 .add (.var 4) (.var 3)) (.cst (.int 4)))) [some (false, rowD c), some (false, rowD g), some (false, rowD h), some (false, .int (step : Nat)), some (false, .int (p : Nat)), c5, c6, c7, c8] = .nx [some (false, rowD c), some (false, rowD g), some (false, rowD h), some (false, .int (step : Nat)), some (false, .int (p : Nat)), some (false, .int ((p + step) % 4 : Nat)), c6, c7, c8] := by
  generalize (((p + step) % 4 : Nat) : Int) = I at *
  generalize ((p : Nat) : Int) = P at *
  generalize ((step : Nat) : Int) = S at *
  simp only [xec, ev, frz, leaks, rdR, rdV, Zc, isOwn, frsh, Zf, Zi, Zj, Zk, Zl, Zq, if_true, Zu, ZA, m1]
 have tt := cW (Φ := Φ) (G := G) (tg := [6]) (body := LJ) (its := [(.lst [(.cst (.int 1)), (.cst (.int 3))])]) (δ := [some (false, rowD c), some (false, rowD g), some (false, rowD h), some (false, .int (step : Nat)), some (false, .int (p : Nat)), some (false, .int ((p + step) % 4 : Nat)), c6, c7, c8]) (x1 := .int ((1 : Nat) : Int)) (x2 := .int ((3 : Nat) : Int)) (A := firstS [tryV c g h step p 1 0, tryV c g h step p 1 2]) (B := firstS [tryV c g h step p 3 0, tryV c g h step p 3 2])
  (P := fun δ => ∃ c6 c7 c8, δ = [some (false, rowD c), some (false, rowD g), some (false, rowD h), some (false, .int (step : Nat)), some (false, .int (p : Nat)), some (false, .int ((p + step) % 4 : Nat)), c6, c7, c8]) rfl rfl ⟨c6, c7, c8, rfl⟩
  (fun δ w => qK hc hg hh hp (by decide) δ w) (fun δ w => qK hc hg hh hp (by decide) δ w)
 have el : loopF Φ G 1000 [4] LP (.int (p : Nat)) [some (false, rowD c), some (false, rowD g), some (false, rowD h), some (false, .int (step : Nat)), c4, c5, c6, c7, c8] = xecs Φ G 1000 LP [some (false, rowD c), some (false, rowD g), some (false, rowD h), some (false, .int (step : Nat)), some (false, .int (p : Nat)), c5, c6, c7, c8] := rfl
 rw [el]
 unfold LP
 rw [aG e1]
 rcases tt with ⟨f, e, t⟩ | ⟨e, δ', ⟨c6', c7', c8', rfl⟩, t⟩
 ·exact .inl ⟨f, e, by rw [bJ t]⟩
 ·exact .inr ⟨e, _, ⟨_, _, _, _, _, rfl⟩, by rw [aG t, xecs]⟩
noncomputable def oneV (c g h : List Int) (step p : Nat) : Option (List Nat) := firstS [firstS [tryV c g h step p 1 0, tryV c g h step p 1 2], firstS [tryV c g h step p 3 0, tryV c g h step p 3 2]]
noncomputable def threeV (c g h : List Int) : Option (List Nat) := firstS [firstS [oneV c g h 1 0, oneV c g h 1 2], firstS [oneV c g h 3 0, oneV c g h 3 2]]
theorem qN {Φ : Nat → List D → R D} {G : List D} {c g h : List Int} {step : Nat} (hc : c.length = 4) (hg : g.length = 4) (hh : h.length = 4) (δ : Sto) (hδ : ∃ c3 c4 c5 c6 c7 c8, δ = [some (false, rowD c), some (false, rowD g), some (false, rowD h), c3, c4, c5, c6, c7, c8]) :
  (∃ f, firstS [oneV c g h step 0, oneV c g h step 2] = some f ∧ loopF Φ G 1000 [3] [(.loop .seq [(.lst [(.cst (.int 0)), (.cst (.int 2))])] [4] LP)] (.int (step : Nat)) δ = .rt (lstN f)) ∨ (firstS [oneV c g h step 0, oneV c g h step 2] = none ∧ ∃ δ', (∃ c3 c4 c5 c6 c7 c8, δ' = [some (false, rowD c), some (false, rowD g), some (false, rowD h), c3, c4, c5, c6, c7, c8]) ∧ loopF Φ G 1000 [3] [(.loop .seq [(.lst [(.cst (.int 0)), (.cst (.int 2))])] [4] LP)] (.int (step : Nat)) δ = .nx δ') := by
 obtain ⟨c3, c4, c5, c6, c7, c8, rfl⟩ := hδ
 have tt := cW (Φ := Φ) (G := G) (tg := [4]) (body := LP) (its := [(.lst [(.cst (.int 0)), (.cst (.int 2))])]) (δ := [some (false, rowD c), some (false, rowD g), some (false, rowD h), some (false, .int (step : Nat)), c4, c5, c6, c7, c8]) (x1 := .int ((0 : Nat) : Int)) (x2 := .int ((2 : Nat) : Int)) (A := oneV c g h step 0) (B := oneV c g h step 2)
  (P := fun δ => ∃ c4 c5 c6 c7 c8, δ = [some (false, rowD c), some (false, rowD g), some (false, rowD h), some (false, .int (step : Nat)), c4, c5, c6, c7, c8]) rfl rfl ⟨c4, c5, c6, c7, c8, rfl⟩
  (fun δ w => qM hc hg hh (by decide) δ w) (fun δ w => qM hc hg hh (by decide) δ w)
 have el : loopF Φ G 1000 [3] [(.loop .seq [(.lst [(.cst (.int 0)), (.cst (.int 2))])] [4] LP)] (.int (step : Nat)) [some (false, rowD c), some (false, rowD g), some (false, rowD h), c3, c4, c5, c6, c7, c8] = xecs Φ G 1000 [(.loop .seq [(.lst [(.cst (.int 0)), (.cst (.int 2))])] [4] LP)] [some (false, rowD c), some (false, rowD g), some (false, rowD h), some (false, .int (step : Nat)), c4, c5, c6, c7, c8] := rfl
 rw [el]
 rcases tt with ⟨f, e, t⟩ | ⟨e, δ', ⟨c4', c5', c6', c7', c8', rfl⟩, t⟩
 ·exact .inl ⟨f, e, by rw [bJ t]⟩
 ·exact .inr ⟨e, _, ⟨_, _, _, _, _, _, rfl⟩, by rw [aG t, xecs]⟩
noncomputable def partsD : Option (List Nat) → D
 | some f => lstN f
 | none => .lst []
theorem p_three (k : Nat) {c g h : List Int} (hc : c.length = 4) (hg : g.length = 4) (hh : h.length = 4) : Phi prog (k + 1) 17 [rowD c, rowD g, rowD h] = .ok (partsD (threeV c g h)) := by
 show (xecs (Phi prog k) prog.gls 1000 cA [some (false, rowD c), some (false, rowD g), some (false, rowD h), none, none, none, none, none, none]).val = _
 have tt := cW (Φ := Phi prog k) (G := prog.gls) (tg := [3]) (body := [(.loop .seq [(.lst [(.cst (.int 0)), (.cst (.int 2))])] [4] LP)]) (its := [(.lst [(.cst (.int 1)), (.cst (.int 3))])]) (δ := [some (false, rowD c), some (false, rowD g), some (false, rowD h), none, none, none, none, none, none]) (x1 := .int ((1 : Nat) : Int)) (x2 := .int ((3 : Nat) : Int)) (A := firstS [oneV c g h 1 0, oneV c g h 1 2]) (B := firstS [oneV c g h 3 0, oneV c g h 3 2])
  (P := fun δ => ∃ c3 c4 c5 c6 c7 c8, δ = [some (false, rowD c), some (false, rowD g), some (false, rowD h), c3, c4, c5, c6, c7, c8]) rfl rfl ⟨none, none, none, none, none, none, rfl⟩
  (fun δ w => qN hc hg hh δ w) (fun δ w => qN hc hg hh δ w)
 unfold cA threeV
 rcases tt with ⟨f, e, t⟩ | ⟨e, δ', ⟨c3, c4, c5, c6, c7, c8, rfl⟩, t⟩
 ·rw [bJ t, e]; rfl
 ·rw [aG t, e]; rfl
theorem cX {A B : Option (List Nat)} {f : List Nat} (h : firstS [A, B] = some f) : A = some f ∨ B = some f := by
 cases A with
 | some a => exact .inl h
 | none =>
  cases B with
  | some b => exact .inr h
  | none => cases h
noncomputable def form (f : List Nat) : Prop := ∃ s p j q : Nat, (s = 1 ∨ s = 3) ∧ (p = 0 ∨ p = 2) ∧ (j = 1 ∨ j = 3) ∧ (q = 0 ∨ q = 2) ∧ f = [p, (p + s) % 4, j, (j + s) % 4, q, (q + s) % 4]
theorem d6 {c g h : List Int} {s p j q : Nat} {f : List Nat} (hs : s = 1 ∨ s = 3) (hp : p = 0 ∨ p = 2) (hj : j = 1 ∨ j = 3) (hq : q = 0 ∨ q = 2) (e : tryV c g h s p j q = some f) : form f := by
 unfold tryV at e
 split at e
 ·cases e; exact ⟨s, p, j, q, hs, hp, hj, hq, rfl⟩
 ·cases e
theorem d7 {c g h : List Int} {s p : Nat} {f : List Nat} (hs : s = 1 ∨ s = 3) (hp : p = 0 ∨ p = 2) (e : oneV c g h s p = some f) : form f := by
 rcases cX e with e | e <;> rcases cX e with e | e
 ·exact d6 hs hp (.inl rfl) (.inl rfl) e
 ·exact d6 hs hp (.inl rfl) (.inr rfl) e
 ·exact d6 hs hp (.inr rfl) (.inl rfl) e
 ·exact d6 hs hp (.inr rfl) (.inr rfl) e
theorem lN {c g h : List Int} {f : List Nat} (e : threeV c g h = some f) : form f := by
 rcases cX e with e | e <;> rcases cX e with e | e
 ·exact d7 (.inl rfl) (.inl rfl) e
 ·exact d7 (.inl rfl) (.inr rfl) e
 ·exact d7 (.inr rfl) (.inl rfl) e
 ·exact d7 (.inr rfl) (.inr rfl) e
theorem cY {c g h : List Int} {s p : Nat} (u1 : ∀ e, ¬ (g.getD 1 0 = c.getD (e % 4) 0 ∧ g.getD 3 0 = c.getD (e % 4) 0)) (u2 : ∀ e, ¬ (h.getD 0 0 = g.getD (e % 4) 0 ∧ h.getD 2 0 = g.getD (e % 4) 0)) : oneV c g h s p = slideV c g h p s := by
 have a1 := u1 (p + s)
 have b1 := u2 (1 + s)
 have b3 := u2 (3 + s)
 unfold oneV slideV endV tryV
 generalize c.getD ((p + s) % 4) 0 = t at *
 by_cases h1 : g.getD 1 0 = t
 ·have h3 : ¬ g.getD 3 0 = t := fun w => a1 ⟨h1, w⟩
  simp only [h1, h3, false_and, if_false, true_and, if_true, firstS]
  by_cases k0 : h.getD 0 0 = g.getD ((1 + s) % 4) 0
  ·have k2 : ¬ h.getD 2 0 = g.getD ((1 + s) % 4) 0 := fun w => b1 ⟨k0, w⟩
   simp only [k0, k2, false_and, if_false, true_and, if_true]
   by_cases z : h.getD ((0 + s) % 4) 0 = c.getD p 0
   ·simp only [z, if_true, firstS]
   ·simp only [z, if_false, firstS]
  ·simp only [k0, false_and, if_false]
   by_cases k2 : h.getD 2 0 = g.getD ((1 + s) % 4) 0
   ·simp only [k2, true_and, if_true]
    by_cases z : h.getD ((2 + s) % 4) 0 = c.getD p 0
    ·simp only [z, if_true, firstS]
    ·simp only [z, if_false, firstS]
   ·simp only [k2, false_and, if_false, firstS]
 ·simp only [h1, false_and, if_false, firstS]
  by_cases h3 : g.getD 3 0 = t
  ·simp only [h3, true_and, if_true]
   by_cases k0 : h.getD 0 0 = g.getD ((3 + s) % 4) 0
   ·have k2 : ¬ h.getD 2 0 = g.getD ((3 + s) % 4) 0 := fun w => b3 ⟨k0, w⟩
    simp only [k0, k2, false_and, if_false, true_and, if_true]
    by_cases z : h.getD ((0 + s) % 4) 0 = c.getD p 0
    ·simp only [z, if_true, firstS]
    ·simp only [z, if_false, firstS]
   ·simp only [k0, false_and, if_false]
    by_cases k2 : h.getD 2 0 = g.getD ((3 + s) % 4) 0
    ·simp only [k2, true_and, if_true]
     by_cases z : h.getD ((2 + s) % 4) 0 = c.getD p 0
     ·simp only [z, if_true, firstS]
     ·simp only [z, if_false, firstS]
    ·simp only [k2, false_and, if_false, firstS]
  ·simp only [h3, false_and, if_false, firstS]
theorem i7 {c g h : List Int} (u1 : ∀ e, ¬ (g.getD 1 0 = c.getD (e % 4) 0 ∧ g.getD 3 0 = c.getD (e % 4) 0)) (u2 : ∀ e, ¬ (h.getD 0 0 = g.getD (e % 4) 0 ∧ h.getD 2 0 = g.getD (e % 4) 0)) : threeV c g h = slidesV c g h := by
 unfold threeV slidesV
 rw [cY u1 u2, cY u1 u2, cY u1 u2, cY u1 u2]
 cases slideV c g h 0 1 <;> cases slideV c g h 2 1 <;> cases slideV c g h 0 3 <;> cases slideV c g h 2 3 <;> rfl
noncomputable def newC (c g h : List Int) : List Nat → List Int
 | [p, i, j, r, q, o] => (((c.set ((i + 2) % 4) (c.getD i 0)).set i (g.getD ((j + 2) % 4) 0)).set ((p + 2) % 4) (c.getD p 0)).set p (h.getD ((o + 2) % 4) 0)
 | _ => []
noncomputable def newG (c g h : List Int) : List Nat → List Int
 | [p, i, j, r, q, o] => (((g.set j (c.getD ((i + 2) % 4) 0)).set ((j + 2) % 4) (c.getD i 0)).set ((r + 2) % 4) (g.getD r 0)).set r (h.getD ((q + 2) % 4) 0)
 | _ => []
noncomputable def newH (c g h : List Int) : List Nat → List Int
 | [p, i, j, r, q, o] => (((h.set o (c.getD ((p + 2) % 4) 0)).set ((o + 2) % 4) (c.getD p 0)).set q (g.getD ((r + 2) % 4) 0)).set ((q + 2) % 4) (g.getD r 0)
 | _ => []
set_option maxHeartbeats 4000000 in
theorem p_lslid (k : Nat) {c g h : List Int} {f : List Nat} (hc : c.length = 4) (hg : g.length = 4) (hh : h.length = 4) (hf : form f) : Phi prog (k + 1) 18 [rowD c, rowD g, rowD h, lstN f] = .ok (.lst [rowD (newC c g h f), rowD (newG c g h f), rowD (newH c g h f)]) := by
 obtain ⟨s, p, j, q, hs, hp, hj, hq, rfl⟩ := hf
 obtain ⟨c0, c1, c2, c3, rfl⟩ := row4 hc
 obtain ⟨g0, g1, g2, g3, rfl⟩ := row4 hg
 obtain ⟨h0, h1, h2, h3, rfl⟩ := row4 hh
 rcases hs with rfl | rfl <;> rcases hp with rfl | rfl <;> rcases hj with rfl | rfl <;> rcases hq with rfl | rfl <;> rfl
noncomputable def put3 (Q : List (List Int)) (x y z : Nat) (a b c : List Int) : List (List Int) := ((Q.set x a).set y b).set z c
section
variable {Q : List (List Int)} {x y z : Nat} {a b c : List Int}
theorem put3_x (hx : x < Q.length) (hxy : x ≠ y) (hxz : x ≠ z) (e : Nat) (v : Int) : setP (put3 Q x y z a b c) (x, e) v = put3 Q x y z (a.set e v) b c := by
 unfold setP put3
 have g1 : (((Q.set x a).set y b).set z c).getD x [] = a := by
  rw [List.getD_eq_getElem?_getD, List.getElem?_set_ne (Ne.symm hxz), List.getElem?_set_ne (Ne.symm hxy), List.getElem?_set_self hx]; rfl
 show (((Q.set x a).set y b).set z c).set x (((((Q.set x a).set y b).set z c).getD x []).set e v) = _
 rw [g1, List.set_comm _ _ hxz.symm, List.set_comm _ _ hxy.symm, List.set_set]
theorem put3_y (hy : y < Q.length) (hyz : y ≠ z) (e : Nat) (v : Int) : setP (put3 Q x y z a b c) (y, e) v = put3 Q x y z a (b.set e v) c := by
 unfold setP put3
 have g1 : (((Q.set x a).set y b).set z c).getD y [] = b := by
  rw [List.getD_eq_getElem?_getD, List.getElem?_set_ne (Ne.symm hyz), List.getElem?_set_self (by rw [List.length_set]; exact hy)]; rfl
 show (((Q.set x a).set y b).set z c).set y (((((Q.set x a).set y b).set z c).getD y []).set e v) = _
 rw [g1, List.set_comm _ _ hyz.symm, List.set_set]
theorem put3_z (hz : z < Q.length) (e : Nat) (v : Int) : setP (put3 Q x y z a b c) (z, e) v = put3 Q x y z a b (c.set e v) := by
 unfold setP put3
 have g1 : (((Q.set x a).set y b).set z c).getD z [] = c := by
  rw [List.getD_eq_getElem?_getD, List.getElem?_set_self (by rw [List.length_set, List.length_set]; exact hz)]; rfl
 show (((Q.set x a).set y b).set z c).set z (((((Q.set x a).set y b).set z c).getD z []).set e v) = _
 rw [g1, List.set_set]
theorem n8 (hx : x < Q.length) (hy : y < Q.length) (hz : z < Q.length) : put3 Q x y z (Q.getD x []) (Q.getD y []) (Q.getD z []) = Q := by
 have h : ∀ {R : List (List Int)} {k : Nat}, k < R.length → R.set k (R.getD k []) = R := fun {R k} hk => by
  have : R.getD k [] = R[k] := by simp [hk]
  rw [this, List.set_getElem_self]
 unfold put3
 rw [h hx, h hy, h hz]
end
theorem qO {Q : List (List Int)} {x y z : Nat} {f : List Nat} (h4 : ∀ r ∈ Q, r.length = 4) (hx : x < Q.length) (hy : y < Q.length) (hz : z < Q.length) (hxy : x ≠ y) (hxz : x ≠ z) (hyz : y ≠ z) (hf : form f) :
  passF Q x y z f = put3 Q x y z (newC (Q.getD x []) (Q.getD y []) (Q.getD z []) f) (newG (Q.getD x []) (Q.getD y []) (Q.getD z []) f) (newH (Q.getD x []) (Q.getD y []) (Q.getD z []) f) := by
 have e0 : ∀ A B : Nat × Nat, pass1 Q Q A B = pass1 Q (put3 Q x y z (Q.getD x []) (Q.getD y []) (Q.getD z [])) A B := fun A B => by rw [n8 hx hy hz]
 have r4 : ∀ {k : Nat}, k < Q.length → (Q.getD k []).length = 4 := fun {k} hk => by
  have : Q.getD k [] = Q[k] := by simp [hk]
  rw [this]; exact h4 _ (List.getElem_mem hk)
 have lx : ∀ e, lineV Q (x, e) = (Q.getD x []).getD e 0 := fun _ => rfl
 have ly : ∀ e, lineV Q (y, e) = (Q.getD y []).getD e 0 := fun _ => rfl
 have lz : ∀ e, lineV Q (z, e) = (Q.getD z []).getD e 0 := fun _ => rfl
 have op : ∀ a e : Nat, oppV (a, e) = (a, (e + 2) % 4) := fun _ _ => rfl
 have q1 := r4 hx
 have q2 := r4 hy
 have q3 := r4 hz
 obtain ⟨s, p, j, q, hs, hp, hj, hq, rfl⟩ := hf
 show passV Q x y z p ((p + s) % 4) j ((j + s) % 4) q ((q + s) % 4) = _
 unfold passV
 rw [e0]
 simp only [pass1, op, lx, ly, lz]
 generalize Q.getD x [] = c at *
 generalize Q.getD y [] = g at *
 generalize Q.getD z [] = h at *
 simp only [put3_x hx hxy hxz, put3_y hy hyz, put3_z hz]
 obtain ⟨c0, c1, c2, c3, rfl⟩ := row4 q1
 obtain ⟨g0, g1, g2, g3, rfl⟩ := row4 q2
 obtain ⟨h0, h1, h2, h3, rfl⟩ := row4 q3
 clear e0
 rcases hs with rfl | rfl <;> rcases hp with rfl | rfl <;> rcases hj with rfl | rfl <;> rcases hq with rfl | rfl <;> rfl
theorem n9 {Q : List (List Int)} {x y z : Nat} {f : List Nat} (h4 : ∀ r ∈ Q, r.length = 4) (hf : form f) : ∀ r ∈ passF Q x y z f, r.length = 4 := by
 obtain ⟨s, p, j, q, hs, hp, hj, hq, rfl⟩ := hf
 exact aZ (aZ (aZ h4))
theorem qP {Q : List (List Int)} {x y z : Nat} {f : List Nat} (hf : form f) : (passF Q x y z f).length = Q.length := by
 obtain ⟨s, p, j, q, hs, hp, hj, hq, rfl⟩ := hf
 show (passV Q x y z _ _ _ _ _ _).length = _
 rw [passV, bG, bG, bG]
theorem Sheet.used {Q : List (List Int)} {m : Nat} (s : Sheet Q m) {x y : Nat} (hx : x < m) (hy : y < m) (hxy : x ≠ y) (a b : Nat) (ha : a < 4) (hb : b < 4) (hab : a ≠ b) (e : Nat) : ¬ ((Q.getD y []).getD a 0 = (Q.getD x []).getD (e % 4) 0 ∧ (Q.getD y []).getD b 0 = (Q.getD x []).getD (e % 4) 0) := fun w => by
 have h0 : okP m (x, e % 4) := ⟨hx, Nat.mod_lt _ (by decide)⟩
 have h1 := s.mate_only h0 (q := (y, a)) ⟨hy, ha⟩ w.1
 have h2 := s.mate_only h0 (q := (y, b)) ⟨hy, hb⟩ w.2
 rcases h1 with h1 | h1
 ·exact hxy (by cases h1; rfl)
 ·rcases h2 with h2 | h2
  ·exact hxy (by cases h2; rfl)
  ·have := h1.trans h2.symm
   exact hab (by cases this; rfl)
noncomputable def cornV (c g h s p j q : Nat) : List (Nat × Nat) := [(4 * c + (p + s) % 4, 4 * g + j), (4 * g + (j + s) % 4, 4 * h + q), (4 * h + (q + s) % 4, 4 * c + p)]
theorem oA (k : Nat) (c g h : Nat) (w : Int) : ∃ s p j q : Nat, (s = 1 ∨ s = 3) ∧ (p = 0 ∨ p = 2) ∧ (j = 1 ∨ j = 3) ∧ (q = 0 ∨ q = 2) ∧ Phi prog (k + 1) 19 [.int (c : Nat), .int (g : Nat), .int (h : Nat), .int w] = .ok (.lst ((cornV c g h s p j q).map pairD)) := by
 have m2 : ∀ x : Int, op2 .mod (.int x) (.int 2) = .ok (.int (x % 2)) := fun x => dA _ _ (by decide)
 have d2 : ∀ x : Int, op2 .fdiv (.int x) (.int 2) = .ok (.int (x / 2)) := fun x => eG _ _ (by decide)
 have d4 : ∀ x : Int, op2 .fdiv (.int x) (.int 4) = .ok (.int (x / 4)) := fun x => eG _ _ (by decide)
 have d8 : ∀ x : Int, op2 .fdiv (.int x) (.int 8) = .ok (.int (x / 8)) := fun x => eG _ _ (by decide)
 obtain ⟨s, hs, es⟩ : ∃ s : Nat, (s = 1 ∨ s = 3) ∧ 1 + 2 * (w % 2) = (s : Int) := ⟨(1 + 2 * (w % 2)).toNat, by omega, by omega⟩
 obtain ⟨p, hp, ep⟩ : ∃ p : Nat, (p = 0 ∨ p = 2) ∧ 2 * (w / 2 % 2) = (p : Int) := ⟨(2 * (w / 2 % 2)).toNat, by omega, by omega⟩
 obtain ⟨j, hj, ej⟩ : ∃ j : Nat, (j = 1 ∨ j = 3) ∧ 1 + 2 * (w / 4 % 2) = (j : Int) := ⟨(1 + 2 * (w / 4 % 2)).toNat, by omega, by omega⟩
 obtain ⟨q, hq, eq⟩ : ∃ q : Nat, (q = 0 ∨ q = 2) ∧ 2 * (w / 8 % 2) = (q : Int) := ⟨(2 * (w / 8 % 2)).toNat, by omega, by omega⟩
 refine ⟨s, p, j, q, hs, hp, hj, hq, ?_⟩
 show (xecs (Phi prog k) prog.gls 1000 bQ [some (false, .int (c : Nat)), some (false, .int (g : Nat)), some (false, .int (h : Nat)), some (false, .int w), none, none, none, none, none, none]).val = _
 have r1 := m4n p s
 have r2 := m4n j s
 have r3 := m4n q s
 have fx : (cornV c g h s p j q).map pairD = [.tup [.int (4 * (c : Int) + ((p + s) % 4 : Nat)), .int (4 * (g : Int) + (j : Nat))], .tup [.int (4 * (g : Int) + ((j + s) % 4 : Nat)), .int (4 * (h : Int) + (q : Nat))], .tup [.int (4 * (h : Int) + ((q + s) % 4 : Nat)), .int (4 * (c : Int) + (p : Nat))]] := by
  simp only [cornV, List.map_cons, List.map_nil, pairD, Int.natCast_add, Int.natCast_mul]
  rfl
 rw [fx]
 generalize (((p + s) % 4 : Nat) : Int) = I at *
 generalize (((j + s) % 4 : Nat) : Int) = RR at *
 generalize (((q + s) % 4 : Nat) : Int) = O at *
 generalize ((s : Nat) : Int) = S at *
 generalize ((p : Nat) : Int) = P at *
 generalize ((j : Nat) : Int) = J at *
 generalize ((q : Nat) : Int) = QQ at *
 generalize ((c : Nat) : Int) = C at *
 generalize ((g : Nat) : Int) = G at *
 generalize ((h : Nat) : Int) = H at *
 have mu4 : ∀ x : Int, op2 .mul (.int 4) (.int x) = .ok (.int (4 * x)) := fun x => jT _ _ (.inl (by decide))
 simp only [bQ, xecs, xec, ev, evs, frz, frz1, leaks, leakss, rdR, rdV, Zc, isOwn, frsh, Zf, Zi, Zj, Zk, Zl, Zo, Zp, Zq, if_true, if_false, Bool.false_eq_true, Zt, Zu, ZA, mul2, mu4, m2, d2, d4, d8, es, ep, ej, eq, r1, r2, r3]
 rfl
theorem bA {a b u v : Nat} (hu : u < 4) (hv : v < 4) (h : a ≠ b ∨ u ≠ v) : 4 * a + u ≠ 4 * b + v := by omega
theorem cZ {a m u : Nat} (ha : a < m) (hu : u < 4) : 4 * a + u < 4 * m := by omega
theorem lO {p s : Nat} (hs : s = 1 ∨ s = 3) (hp : p < 4) : (p + s) % 4 ≠ p := by omega
theorem qQ {p : Nat} (h : p = 0 ∨ p = 2) : p < 4 := by omega
theorem odd_lt {p : Nat} (h : p = 1 ∨ p = 3) : p < 4 := by omega
theorem kD {i k : Nat} (h : i < k) (hk : k < 3) : (i = 0 ∧ k = 1) ∨ (i = 0 ∧ k = 2) ∨ (i = 1 ∧ k = 2) := by omega
theorem lP {m c g h s p j q : Nat} (hc : c < m) (hg : g < m) (hh : h < m) (hcg : c ≠ g) (hch : c ≠ h) (hgh : g ≠ h) (hs : s = 1 ∨ s = 3) (hp : p = 0 ∨ p = 2) (hj : j = 1 ∨ j = 3) (hq : q = 0 ∨ q = 2) : GP (startP m (cornV c g h s p j q)) ∧ ∀ x ∈ cornV c g h s p j q, x.1 < 4 * m ∧ x.2 < 4 * m := by
 have lt : ∀ n, n % 4 < 4 := fun n => Nat.mod_lt n (by decide)
 have p4 := qQ hp
 have j4 := odd_lt hj
 have q4 := qQ hq
 have hm : ∀ x ∈ cornV c g h s p j q, x = (4 * c + (p + s) % 4, 4 * g + j) ∨ x = (4 * g + (j + s) % 4, 4 * h + q) ∨ x = (4 * h + (q + s) % 4, 4 * c + p) := fun x hx => by simpa [cornV] using hx
 have hr : ∀ x ∈ cornV c g h s p j q, x.1 < 4 * m ∧ x.2 < 4 * m := fun x hx => by
  rcases hm x hx with rfl | rfl | rfl
  ·exact ⟨cZ hc (lt _), cZ hg j4⟩
  ·exact ⟨cZ hg (lt _), cZ hh q4⟩
  ·exact ⟨cZ hh (lt _), cZ hc p4⟩
 refine ⟨GP.startF hr (fun x hx => ?_) (fun i k hik hk => ?_), hr⟩
 ·rcases hm x hx with rfl | rfl | rfl
  ·exact bA (lt _) j4 (.inl hcg)
  ·exact bA (lt _) q4 (.inl hgh)
  ·exact bA (lt _) p4 (.inl (Ne.symm hch))
 ·have g0 : (cornV c g h s p j q).getD 0 (0, 0) = (4 * c + (p + s) % 4, 4 * g + j) := rfl
  have g1 : (cornV c g h s p j q).getD 1 (0, 0) = (4 * g + (j + s) % 4, 4 * h + q) := rfl
  have g2 : (cornV c g h s p j q).getD 2 (0, 0) = (4 * h + (q + s) % 4, 4 * c + p) := rfl
  rcases kD hik hk with ⟨rfl, rfl⟩ | ⟨rfl, rfl⟩ | ⟨rfl, rfl⟩
  ·rw [g0, g1]
   exact ⟨⟨bA (lt _) (lt _) (.inl hcg), bA j4 (lt _) (.inr (Ne.symm (lO hs j4)))⟩, bA (lt _) q4 (.inl hch), bA j4 q4 (.inl hgh)⟩
  ·rw [g0, g2]
   exact ⟨⟨bA (lt _) (lt _) (.inl hch), bA j4 (lt _) (.inl hgh)⟩, bA (lt _) p4 (.inr (lO hs p4)), bA j4 p4 (.inl (Ne.symm hcg))⟩
  ·rw [g1, g2]
   exact ⟨⟨bA (lt _) (lt _) (.inl hgh), bA q4 (lt _) (.inr (Ne.symm (lO hs q4)))⟩, bA (lt _) p4 (.inl (Ne.symm hcg)), bA q4 p4 (.inl (Ne.symm hch))⟩
theorem qR : ∀ m, m < 11 → ∀ c, c < m → ∀ g, g < m → c ≠ g → ((List.range m).filter fun k => decide (k ≠ c ∧ k ≠ g)).length = m - 2 := by decide +kernel
theorem p_spots (k : Nat) (ns : List Int) {m : Nat} (h3 : 3 ≤ m) (hm : m ≤ 10) : ∃ c g h : Nat, (c < m ∧ g < m ∧ h < m ∧ c ≠ g ∧ c ≠ h ∧ g ≠ h) ∧ Phi prog (k + 2) 20 [.scr ns, .int (m : Nat)] = .ok (.lst [.int (c : Nat), .int (g : Nat), .int (h : Nat)]) := by
 have c1 : Phi prog (k + 1) 9 [.scr ns, .int 1] = _ := cE k ns 1
 have c2 : Phi prog (k + 1) 9 [.scr ns, .int 2] = _ := cE k ns 2
 have c3 : Phi prog (k + 1) 9 [.scr ns, .int 3] = _ := cE k ns 3
 have mM : ∀ x : Int, op2 .mod (.int x) (.int (m : Nat)) = .ok (.int (x % (m : Nat))) := fun x => dA _ _ (by omega)
 have mM1 : ∀ x : Int, op2 .mod (.int x) (.int ((m : Nat) - 1)) = .ok (.int (x % ((m : Nat) - 1))) := fun x => dA _ _ (by omega)
 have mM2 : ∀ x : Int, op2 .mod (.int x) (.int ((m : Nat) - 2)) = .ok (.int (x % ((m : Nat) - 2))) := fun x => dA _ _ (by omega)
 obtain ⟨c, hc, ec⟩ : ∃ c : Nat, c < m ∧ cellV ns 1 % (m : Nat) = (c : Nat) := by
  have a := Int.emod_nonneg (cellV ns 1) (show ((m : Nat) : Int) ≠ 0 by omega)
  have b := Int.emod_lt_of_pos (cellV ns 1) (show (0 : Int) < (m : Nat) by omega)
  exact ⟨(cellV ns 1 % (m : Nat)).toNat, by omega, by omega⟩
 obtain ⟨z, hz, ez⟩ : ∃ z : Int, (0 ≤ z ∧ z < (m : Nat) - 1) ∧ cellV ns 2 % (((m : Nat) : Int) - 1) = z := ⟨_, ⟨Int.emod_nonneg _ (by omega), Int.emod_lt_of_pos _ (by omega)⟩, rfl⟩
 obtain ⟨g, hg, eg, hcg⟩ : ∃ g : Nat, g < m ∧ ((c : Nat) + 1 + z) % ((m : Nat) : Int) = (g : Nat) ∧ c ≠ g := by
  by_cases w : (c : Int) + 1 + z < (m : Nat)
  ·refine ⟨((c : Int) + 1 + z).toNat, by omega, ?_, by omega⟩
   rw [Int.emod_eq_of_lt (by omega) w]; omega
  ·refine ⟨((c : Int) + 1 + z - (m : Nat)).toNat, by omega, ?_, by omega⟩
   rw [← Int.sub_emod_right, Int.emod_eq_of_lt (by omega) (by omega)]; omega
 obtain ⟨u, hu, eu⟩ : ∃ u : Nat, u < m - 2 ∧ cellV ns 3 % (((m : Nat) : Int) - 2) = (u : Nat) := by
  have a := Int.emod_nonneg (cellV ns 3) (show ((m : Nat) : Int) - 2 ≠ 0 by omega)
  have b := Int.emod_lt_of_pos (cellV ns 3) (show (0 : Int) < (m : Nat) - 2 by omega)
  exact ⟨(cellV ns 3 % ((m : Nat) - 2)).toNat, by omega, by omega⟩
 have ll := qR m (by omega) c hc g hg hcg
 generalize hL : (List.range m).filter (fun k => decide (k ≠ c ∧ k ≠ g)) = L at *
 have hul : u < L.length := by omega
 have hmem : L[u] ∈ L := List.getElem_mem hul
 have hmem2 : L[u] < m ∧ L[u] ≠ c ∧ L[u] ≠ g := by
  have : L[u] ∈ (List.range m).filter (fun k => decide (k ≠ c ∧ k ≠ g)) := by rw [hL]; exact hmem
  rw [List.mem_filter, List.mem_range, decide_eq_true_iff] at this
  exact this
 refine ⟨c, g, L[u], ⟨hc, hg, hmem2.1, hcg, Ne.symm hmem2.2.1, Ne.symm hmem2.2.2⟩, ?_⟩
 have hat : op2 .at (.lst (natL L)) (.int (u : Nat)) = .ok (.int (L[u] : Nat)) := by
  show ofO (atD (natL L) _) = _
  rw [cL (by simpa [natL] using hul)]
  simp [natL, hul, ofO]
 show (xecs (Phi prog (k + 1)) prog.gls 1000 cB [some (false, .scr ns), some (false, .int (m : Nat)), none, none, none]).val = _
 have hcomp : ev (Phi prog (k + 1)) prog.gls false (.comp .rng [(.var 1)] [2, 3] 1 (some (.and (.leaf (.op2 .ne (.var 0) (.var 1))) (.leaf (.op2 .ne (.var 0) (.var 2))))) (.var 0)) [some (false, .scr ns), some (false, .int (m : Nat)), some (false, .int (c : Nat)), some (false, .int (g : Nat)), none] = .ok (.lst (natL L)) := by
  have h1 : itemsD .rng [.int (m : Nat)] = .ok (rangeD 0 m) := bV (by omega)
  rw [ev]
  simp only [evs, ev, if_true, rdR, Zf, Zk, Zl, Zm, Zn, Zx, h1, capOf]
  rw [cO, cK (fun z => match z with | .int k => !(k == (c : Nat)) && !(k == (g : Nat)) | _ => false) (fun z => z) _ fun z hz => ?_]
  ·simp only [Py.R.quiet_ok, fZ]
   congr 2
   rw [← hL]
   unfold natL
   rw [List.map_id', List.filter_map]
   congr 1
   refine List.filter_congr fun k _ => ?_
   show (!(((k : Nat) : Int) == (c : Nat)) && !(((k : Nat) : Int) == (g : Nat))) = _
   rw [Bool.eq_iff_iff]
   simp
   omega
  ·obtain ⟨k, hk, rfl⟩ := List.mem_map.mp hz
   generalize ((k : Nat) : Int) = K
   generalize ((c : Nat) : Int) = C
   generalize ((g : Nat) : Int) = GG
   by_cases e1 : (K == C) = true
   ·simp only [evT, ev, evO, rdR, rdV, Za, spread, Zf, Zk, Zl, Zm, Zn, Zo, Zp, if_true, if_false, Bool.false_eq_true, Zu, Zv, ZH, e1]
   ·by_cases e2 : (K == GG) = true
    ·simp only [evT, ev, evO, rdR, rdV, Za, spread, Zf, Zk, Zl, Zm, Zn, Zo, Zp, if_true, if_false, Bool.false_eq_true, Zs, Zv, Zw, ZH, e1, e2]
    ·simp only [evT, ev, evO, rdR, rdV, Za, spread, Zf, Zk, Zl, Zm, Zn, Zo, Zp, if_true, if_false, Bool.false_eq_true, Zr, Zw, ZH, e1, e2]
 have e2 : xec (Phi prog (k + 1)) prog.gls 1000 (.asg 2 (.op2 .mod (.call 9 [(.var 0), (.cst (.int 1))]) (.var 1))) [some (false, .scr ns), some (false, .int (m : Nat)), none, none, none] = .nx [some (false, .scr ns), some (false, .int (m : Nat)), some (false, .int (c : Nat)), none, none] := by
  generalize ((m : Nat) : Int) = M at *
  simp only [xec, ev, evs, frz, frz1, leaks, leakss, rdR, rdV, Zc, isOwn, frsh, Zf, Zi, Zj, Zk, Zl, Zq, if_true, if_false, Bool.false_eq_true, Zu, c1, mM, ec]
 have e3 : xec (Phi prog (k + 1)) prog.gls 1000 (.asg 3 (.op2 .mod (.op2 .add (.op2 .add (.var 2) (.cst (.int 1))) (.op2 .mod (.call 9 [(.var 0), (.cst (.int 2))]) (.op2 .sub (.var 1) (.cst (.int 1))))) (.var 1))) [some (false, .scr ns), some (false, .int (m : Nat)), some (false, .int (c : Nat)), none, none] = .nx [some (false, .scr ns), some (false, .int (m : Nat)), some (false, .int (c : Nat)), some (false, .int (g : Nat)), none] := by
  generalize ((m : Nat) : Int) = M at *
  generalize ((c : Nat) : Int) = C at *
  generalize ((g : Nat) : Int) = GG at *
  simp only [xec, ev, evs, frz, frz1, leaks, leakss, rdR, rdV, Zc, isOwn, frsh, Zf, Zi, Zj, Zk, Zl, Zo, Zq, if_true, if_false, Bool.false_eq_true, Zu, ZA, ZB, c2, mM, mM1, ez, eg]
 have e4 : xec (Phi prog (k + 1)) prog.gls 1000 (.asg 4 (.comp .rng [(.var 1)] [2, 3] 1 (some (.and (.leaf (.op2 .ne (.var 0) (.var 1))) (.leaf (.op2 .ne (.var 0) (.var 2))))) (.var 0))) [some (false, .scr ns), some (false, .int (m : Nat)), some (false, .int (c : Nat)), some (false, .int (g : Nat)), none] = .nx [some (false, .scr ns), some (false, .int (m : Nat)), some (false, .int (c : Nat)), some (false, .int (g : Nat)), some (true, .lst (natL L))] := xec_asg rfl hcomp
 unfold cB
 rw [aG e2, aG e3, aG e4]
 generalize natL L = LL at *
 generalize ((L[u] : Nat) : Int) = HH at *
 generalize ((m : Nat) : Int) = M at *
 generalize ((c : Nat) : Int) = C at *
 generalize ((g : Nat) : Int) = GG at *
 generalize ((u : Nat) : Int) = U at *
 simp only [xecs, xec, ev, evs, frz, frz1, leaks, leakss, rdR, rdV, Zc, Zf, Zk, Zl, Zo, Zp, Zq, if_true, if_false, Bool.false_eq_true, ZB, c3, mM2, eu, hat]
 rfl
theorem qS {Q : List (List Int)} {x : Int} (hx : ¬ outR Q x) : op2 .at (.tup (Q.map rowD)) (.int x) = .ok (rowD (Q.getD x.toNat [])) := by
 obtain ⟨X, rfl⟩ : ∃ X : Nat, x = (X : Nat) := ⟨x.toNat, by omega⟩
 show ofO (atD (Q.map rowD) _) = _
 rw [bY (by omega)]
 simp [ofO]
theorem min_out {Q : List (List Int)} {m : Nat} (hm : Q.length = m) (x y z : Int) : (decide (minI x [y, z] < 0) || decide (((m : Nat) : Int) ≤ maxI x [y, z])) = decide (outR Q x ∨ outR Q y ∨ outR Q z) := by
 rw [Bool.eq_iff_iff, Bool.or_eq_true, decide_eq_true_iff, decide_eq_true_iff, decide_eq_true_iff]
 subst hm
 simp only [minI, maxI, List.foldl_cons, List.foldl_nil]
 constructor
 ·intro w
  split at w <;> split at w <;> split at w <;> split at w <;> omega
 ·intro w
  split <;> split <;> split <;> split <;> omega
theorem dist3 (x y z : Int) : ((dist [x, y, z]).length = 3) ↔ ¬ (x = y ∨ x = z ∨ y = z) := by
 by_cases h1 : x = y
 ·subst h1
  constructor
  ·intro w
   exfalso
   have e : dist [x, x, z] = x :: ((dist [x, z]).filter fun w => decide (w ≠ x)) := rfl
   have e2 : dist [x, z] = x :: ((dist [z]).filter fun w => decide (w ≠ x)) := rfl
   rw [e, e2] at w
   simp [dist] at w
   by_cases h : z = x <;> simp [h] at w
  ·intro w; exact absurd (.inl rfl) w
 ·by_cases h2 : x = z
  ·subst h2
   constructor
   ·intro w
    exfalso
    simp [dist] at w
    by_cases h : y = x
    ·exact h1 h.symm
    ·by_cases h' : x = y <;> simp [h, h'] at w
   ·intro w; exact absurd (.inr (.inl rfl)) w
  ·by_cases h3 : y = z
   ·subst h3
    constructor
    ·intro w
     exfalso
     simp [dist] at w
     have h : ¬ y = x := fun e => h1 e.symm
     simp [h] at w
    ·intro w; exact absurd (.inr (.inr rfl)) w
   ·have a1 : ¬ y = x := fun e => h1 e.symm
    have a2 : ¬ z = x := fun e => h2 e.symm
    have a3 : ¬ z = y := fun e => h3 e.symm
    constructor
    ·intro _ w
     exact w.elim h1 fun w => w.elim h2 h3
    ·intro _
     simp [dist, a1, a2, a3]
noncomputable abbrev TAIL : List Sm := [(.asg 7 (.call 16 [(.var 5), (.op2 .at (.var 2) (.cst (.int 0))), (.op2 .at (.var 2) (.cst (.int 1))), (.op2 .at (.var 2) (.cst (.int 2)))])), (.ite (.or (.leaf (.op2 .lt (.op1 .minL (.var 2)) (.cst (.int 0)))) (.leaf (.op2 .ge (.op1 .maxL (.var 2)) (.var 1)))) [(.ret (.call 15 [(.op2 .at (.var 7) (.cst (.int 1))), (.cst (.int 2))]))] []), (.asg 8 (.lst [])), (.ite (.leaf (.op2 .eq (.op1 .nset (.var 2)) (.cst (.int 3)))) [(.asg 8 (.call 17 [(.op2 .at (.var 4) (.op2 .at (.var 2) (.cst (.int 0)))), (.op2 .at (.var 4) (.op2 .at (.var 2) (.cst (.int 1)))), (.op2 .at (.var 4) (.op2 .at (.var 2) (.cst (.int 2))))]))] []), (.ite (.leaf (.op2 .eq (.var 8) (.lst []))) [(.ret (.call 15 [(.op2 .at (.var 7) (.cst (.int 1))), (.cst (.int 3))]))] []), (.asg 9 (.call 18 [(.op2 .at (.var 4) (.op2 .at (.var 2) (.cst (.int 0)))), (.op2 .at (.var 4) (.op2 .at (.var 2) (.cst (.int 1)))), (.op2 .at (.var 4) (.op2 .at (.var 2) (.cst (.int 2)))), (.var 8)])), (.asg 10 (.op1 .list (.var 4))), (.loop .rng [(.cst (.int 3))] [11] [(.put 10 (.op2 .at (.var 2) (.var 11)) (.op2 .at (.var 9) (.var 11)))]), (.ret (.and (.op2 .eq (.op2 .at (.var 7) (.cst (.int 1))) (.lst [])) (.call 14 [(.op2 .at (.var 7) (.cst (.int 0))), (.tup [(.call 12 [(.var 10)]), (.op2 .at (.var 5) (.cst (.int 1)))])])))]
theorem qT {Q : List (List Int)} {m : Nat} {g x y z : Int} {b2 : Bool} {d0 d3 c6 : Slot} (sh : Sheet Q m) (hm : m ≤ 10) :
  (xecs (Phi prog 8) prog.gls 1000 TAIL [d0, some (false, .int (m : Nat)), some (b2, .lst [.int x, .int y, .int z]), d3, some (false, .tup (Q.map rowD)), some (false, shD Q g), c6, none, none, none, none, none]).val = .ok (.bl true) := by
 have hQ : Q.length ≤ 50 := by rw [sh.len]; omega
 have n3 : ∀ a b c : D, atD [a, b, c] 0 = some a ∧ atD [a, b, c] 1 = some b ∧ atD [a, b, c] 2 = some c := fun a b c => ⟨rfl, rfl, rfl⟩
 have hmin : op1 .minL (.lst [.int x, .int y, .int z]) = .ok (.int (minI x [y, z])) := rfl
 have hmax : op1 .maxL (.lst [.int x, .int y, .int z]) = .ok (.int (maxI x [y, z])) := rfl
 have hns : op1 .nset (.lst [.int x, .int y, .int z]) = .ok (.int ((dist [x, y, z]).length : Nat)) := rfl
 have hsl := p_slid 4 (g := g) (x := x) (y := y) (z := z) sh.four hQ
 have mo := min_out sh.len x y z
 have rf2 : Phi prog 8 15 [marksD 2, .int 2] = _ := iD 7 2
 have rf3 : Phi prog 8 15 [marksD 3, .int 3] = _ := iD 7 3
 have a51 : op2 .at (shD Q g) (.int 1) = .ok (.int g) := rfl
 have eqn : op2 .eq (.lst []) (.lst []) = .ok (.bl true) := rfl
 unfold TAIL
 by_cases hA : outR Q x ∨ outR Q y ∨ outR Q z
 ·rw [if_pos hA] at hsl
  have ht : Phi prog 8 16 [shD Q g, .int x, .int y, .int z] = _ := i6 7 (.inr ⟨0, by decide, hsl⟩)
  rw [hsl] at ht
  have ht' : Phi prog 8 16 [shD Q g, .int x, .int y, .int z] = .ok (.tup [.non, marksD 2]) := ht
  rw [decide_eq_true hA] at mo
  generalize marksD 2 = MK at *
  generalize shD Q g = SS at *
  generalize Q.map rowD = QQ at *
  generalize ((m : Nat) : Int) = M at *
  generalize minI x [y, z] = mi at *
  generalize maxI x [y, z] = ma at *
  by_cases w : decide (mi < 0) = true
  ·simp only [xecs, xec, evT, ev, evs, frz, frz1, leaksT, leaks, leakss, rdR, rdV, Za, Zc, isOwn, frsh, Ze, Zf, Zi, Zj, Zk, Zl, Zq, if_true, if_false, Bool.false_eq_true, Zu, ZC, ZF, ZI, ZJ, n3, ht', hmin, hmax, w, rf2, iB] <;> rfl
  ·have w1 : decide (mi < 0) = false := by simpa using w
   have w2 : decide (M ≤ ma) = true := by rw [w1, Bool.false_or] at mo; exact mo
   simp only [xecs, xec, evT, ev, evs, frz, frz1, leaksT, leaks, leakss, rdR, rdV, Za, Zc, isOwn, frsh, Ze, Zf, Zi, Zj, Zk, Zl, Zq, if_true, if_false, Bool.false_eq_true, Zu, ZC, ZF, ZI, ZJ, n3, ht', hmin, hmax, w1, w2, rf2, iB] <;> rfl
 rw [if_neg hA] at hsl
 rw [decide_eq_false hA, Bool.or_eq_false_iff] at mo
 have hx : ¬ outR Q x := fun w => hA (.inl w)
 have hy : ¬ outR Q y := fun w => hA (.inr (.inl w))
 have hz : ¬ outR Q z := fun w => hA (.inr (.inr w))
 have ax := qS hx
 have ay := qS hy
 have az := qS hz
 have fc := cI sh.four hx
 have fg := cI sh.four hy
 have fh := cI sh.four hz
 by_cases hB : x = y ∨ x = z ∨ y = z
 ·rw [if_pos hB] at hsl
  have ht : Phi prog 8 16 [shD Q g, .int x, .int y, .int z] = _ := i6 7 (.inr ⟨1, by decide, hsl⟩)
  rw [hsl] at ht
  have ht' : Phi prog 8 16 [shD Q g, .int x, .int y, .int z] = .ok (.tup [.non, marksD 3]) := ht
  have w3 : ((((dist [x, y, z]).length : Nat) : Int) == 3) = false := by
   have : ¬ (dist [x, y, z]).length = 3 := fun w => (dist3 x y z).mp w hB
   generalize (dist [x, y, z]).length = n at *
   simp; omega
  obtain ⟨w1, w2⟩ := mo
  generalize marksD 3 = MK at *
  generalize shD Q g = SS at *
  generalize Q.map rowD = QQ at *
  generalize ((m : Nat) : Int) = M at *
  generalize minI x [y, z] = mi at *
  generalize maxI x [y, z] = ma at *
  generalize (((dist [x, y, z]).length : Nat) : Int) = DD at *
  simp only [xecs, xec, evT, ev, evs, frz, frz1, leaksT, leaks, leakss, rdR, rdV, Za, Zc, isOwn, frsh, Ze, Zf, Zi, Zj, Zk, Zl, Zq, if_true, if_false, Bool.false_eq_true, Zt, Zu, ZC, ZF, ZG, ZI, ZJ, n3, ht', hmin, hmax, hns, w1, w2, w3, rf3, iB, eqn] <;> rfl
 rw [if_neg hB] at hsl
 have w3 : ((((dist [x, y, z]).length : Nat) : Int) == 3) = true := by
  have := (dist3 x y z).mpr hB
  simp; omega
 have lm : Q.length = m := sh.len
 have hxy : x.toNat ≠ y.toNat := fun e => hB (.inl (by omega))
 have hxz : x.toNat ≠ z.toNat := fun e => hB (.inr (.inl (by omega)))
 have hyz : y.toNat ≠ z.toNat := fun e => hB (.inr (.inr (by omega)))
 have ts : threeV (Q.getD x.toNat []) (Q.getD y.toNat []) (Q.getD z.toNat []) = slidesV (Q.getD x.toNat []) (Q.getD y.toNat []) (Q.getD z.toNat []) := i7 (Sheet.used sh (by omega) (by omega) hxy 1 3 (by decide) (by decide) (by decide)) (Sheet.used sh (by omega) (by omega) hyz 0 2 (by decide) (by decide) (by decide))
 have p3 : Phi prog 8 17 [rowD (Q.getD x.toNat []), rowD (Q.getD y.toNat []), rowD (Q.getD z.toNat [])] = _ := p_three 7 fc fg fh
 obtain ⟨w1, w2⟩ := mo
 cases hf : threeV (Q.getD x.toNat []) (Q.getD y.toNat []) (Q.getD z.toNat []) with
 | none =>
  rw [← ts, hf] at hsl
  have ht : Phi prog 8 16 [shD Q g, .int x, .int y, .int z] = _ := i6 7 (.inr ⟨1, by decide, hsl⟩)
  rw [hsl] at ht
  have ht' : Phi prog 8 16 [shD Q g, .int x, .int y, .int z] = .ok (.tup [.non, marksD 3]) := ht
  rw [hf] at p3
  have p3' : Phi prog 8 17 [rowD (Q.getD x.toNat []), rowD (Q.getD y.toNat []), rowD (Q.getD z.toNat [])] = .ok (.lst []) := p3
  generalize rowD (Q.getD x.toNat []) = RX at *
  generalize rowD (Q.getD y.toNat []) = RY at *
  generalize rowD (Q.getD z.toNat []) = RZ at *
  generalize marksD 3 = MK at *
  generalize shD Q g = SS at *
  generalize Q.map rowD = QQ at *
  generalize ((m : Nat) : Int) = M at *
  generalize minI x [y, z] = mi at *
  generalize maxI x [y, z] = ma at *
  generalize (((dist [x, y, z]).length : Nat) : Int) = DD at *
  simp only [xecs, xec, evT, ev, evs, frz, frz1, leaksT, leaks, leakss, rdR, rdV, Za, Zc, isOwn, frsh, Ze, Zf, Zi, Zj, Zk, Zl, Zq, if_true, if_false, Bool.false_eq_true, Zt, Zu, ZC, ZF, ZG, ZI, ZJ, n3, ht', hmin, hmax, hns, w1, w2, w3, rf3, iB, eqn, ax, ay, az, p3'] <;> rfl
 | some f =>
  have ff := lN hf
  rw [← ts, hf] at hsl
  have hsl' : Phi prog 7 4 [shD Q g, .int x, .int y, .int z] = .ok (shD (numV (passF Q x.toNat y.toNat z.toNat f)) g) := hsl
  have ht : Phi prog 8 16 [shD Q g, .int x, .int y, .int z] = _ := i6 7 (.inl ⟨_, hsl'⟩)
  rw [hsl'] at ht
  have ht' : Phi prog 8 16 [shD Q g, .int x, .int y, .int z] = .ok (.tup [shD (numV (passF Q x.toNat y.toNat z.toNat f)) g, .lst []]) := ht
  rw [hf] at p3
  have p3' : Phi prog 8 17 [rowD (Q.getD x.toNat []), rowD (Q.getD y.toNat []), rowD (Q.getD z.toNat [])] = .ok (lstN f) := p3
  have pl : Phi prog 8 18 [rowD (Q.getD x.toNat []), rowD (Q.getD y.toNat []), rowD (Q.getD z.toNat []), lstN f] = _ := p_lslid 7 fc fg fh ff
  have ne : op2 .eq (lstN f) (.lst []) = .ok (.bl false) := by
   obtain ⟨s, p, j, q, hs, hp, hj, hq, rfl⟩ := ff
   rfl
  have pe := qO sh.four (x := x.toNat) (y := y.toNat) (z := z.toNat) (by omega) (by omega) (by omega) hxy hxz hyz ff
  have p4 := n9 (x := x.toNat) (y := y.toNat) (z := z.toNat) sh.four ff
  have p5 := qP (Q := Q) (x := x.toNat) (y := y.toNat) (z := z.toNat) ff
  have hn : Phi prog 8 12 [.lst ((passF Q x.toNat y.toNat z.toNat f).map rowD)] = _ := gN 7 p4 (by rw [p5]; exact hQ)
  have hs := p_same 6 (g := g) (h8 p4) (by rw [j0, p5]; exact hQ)
  have hs' : Phi prog 8 14 [shD (numV (passF Q x.toNat y.toNat z.toNat f)) g, .tup [.tup ((numV (passF Q x.toNat y.toNat z.toNat f)).map rowD), .int g]] = .ok (.bl true) := hs
  have hmap : (passF Q x.toNat y.toNat z.toNat f).map rowD = (((Q.map rowD).set x.toNat (rowD (newC (Q.getD x.toNat []) (Q.getD y.toNat []) (Q.getD z.toNat []) f))).set y.toNat (rowD (newG (Q.getD x.toNat []) (Q.getD y.toNat []) (Q.getD z.toNat []) f))).set z.toNat (rowD (newH (Q.getD x.toNat []) (Q.getD y.toNat []) (Q.getD z.toNat []) f)) := by
   rw [pe, put3, List.map_set, List.map_set, List.map_set]
  rw [hmap] at hn
  generalize rowD (newC (Q.getD x.toNat []) (Q.getD y.toNat []) (Q.getD z.toNat []) f) = NC at *
  generalize rowD (newG (Q.getD x.toNat []) (Q.getD y.toNat []) (Q.getD z.toNat []) f) = NG at *
  generalize rowD (newH (Q.getD x.toNat []) (Q.getD y.toNat []) (Q.getD z.toNat []) f) = NH at *
  generalize shD (numV (passF Q x.toNat y.toNat z.toNat f)) g = RES at *
  generalize (numV (passF Q x.toNat y.toNat z.toNat f)).map rowD = RS at *
  generalize rowD (Q.getD x.toNat []) = RX at *
  generalize rowD (Q.getD y.toNat []) = RY at *
  generalize rowD (Q.getD z.toNat []) = RZ at *
  have ix : ∀ (w : Int) (W : List D), W.length = Q.length → ¬ outR Q w → ixD W.length w = some w.toNat := fun w W hW hw => by
   rw [hW]
   unfold ixD
   rw [if_pos (by omega), if_pos (by omega)]
  have lq : (Q.map rowD).length = Q.length := List.length_map _
  have i1 := ix x (Q.map rowD) lq hx
  have i2 := ix y ((Q.map rowD).set x.toNat NC) (by rw [List.length_set]; exact lq) hy
  have i3 := ix z (((Q.map rowD).set x.toNat NC).set y.toNat NG) (by rw [List.length_set, List.length_set]; exact lq) hz
  clear ix hmap pe p4 p5 hs hsl hsl' ht p3 ts hf ff fc fg fh lq lm
  generalize Q.map rowD = QQ at *
  generalize shD Q g = SS at *
  generalize x.toNat = X at *
  generalize y.toNat = Y at *
  generalize z.toNat = Z at *
  generalize lstN f = LF at *
  generalize ((m : Nat) : Int) = M at *
  generalize minI x [y, z] = mi at *
  generalize maxI x [y, z] = ma at *
  generalize (((dist [x, y, z]).length : Nat) : Int) = DD at *
  have e1 : xec (Phi prog 8) prog.gls 1000 (.asg 7 (.call 16 [(.var 5), (.op2 .at (.var 2) (.cst (.int 0))), (.op2 .at (.var 2) (.cst (.int 1))), (.op2 .at (.var 2) (.cst (.int 2)))])) [d0, some (false, .int M), some (b2, .lst [.int x, .int y, .int z]), d3, some (false, .tup QQ), some (false, SS), c6, none, none, none, none, none] = .nx [d0, some (false, .int M), some (b2, .lst [.int x, .int y, .int z]), d3, some (false, .tup QQ), some (false, SS), c6, some (false, .tup [RES, .lst []]), none, none, none, none] := by
   simp only [xec, ev, evs, frz, frz1, leaks, leakss, rdR, rdV, Zc, isOwn, frsh, Ze, Zf, Zi, Zj, Zk, Zl, Zq, if_true, if_false, Bool.false_eq_true, Zu, ZI, n3, ht']
  have e2 : xec (Phi prog 8) prog.gls 1000 (.ite (.or (.leaf (.op2 .lt (.op1 .minL (.var 2)) (.cst (.int 0)))) (.leaf (.op2 .ge (.op1 .maxL (.var 2)) (.var 1)))) [(.ret (.call 15 [(.op2 .at (.var 7) (.cst (.int 1))), (.cst (.int 2))]))] []) [d0, some (false, .int M), some (b2, .lst [.int x, .int y, .int z]), d3, some (false, .tup QQ), some (false, SS), c6, some (false, .tup [RES, .lst []]), none, none, none, none] = .nx [d0, some (false, .int M), some (b2, .lst [.int x, .int y, .int z]), d3, some (false, .tup QQ), some (false, SS), c6, some (false, .tup [RES, .lst []]), none, none, none, none] := by
   simp only [xecs, xec, evT, ev, evs, frz, leaksT, leaks, leakss, rdR, rdV, Za, Zc, Zf, Zk, Zl, Zq, if_true, if_false, Bool.false_eq_true, ZC, ZF, ZJ, hmin, hmax, w1, w2]
  have e3 : xec (Phi prog 8) prog.gls 1000 (.asg 8 (.lst [])) [d0, some (false, .int M), some (b2, .lst [.int x, .int y, .int z]), d3, some (false, .tup QQ), some (false, SS), c6, some (false, .tup [RES, .lst []]), none, none, none, none] = .nx [d0, some (false, .int M), some (b2, .lst [.int x, .int y, .int z]), d3, some (false, .tup QQ), some (false, SS), c6, some (false, .tup [RES, .lst []]), some (true, .lst []), none, none, none] := by
   simp only [xec, ev, evs, frz, leaks, leakss, Zc, isOwn, frsh, Zf, Zi, Zj, Zt]
  have e4 : xec (Phi prog 8) prog.gls 1000 (.ite (.leaf (.op2 .eq (.op1 .nset (.var 2)) (.cst (.int 3)))) [(.asg 8 (.call 17 [(.op2 .at (.var 4) (.op2 .at (.var 2) (.cst (.int 0)))), (.op2 .at (.var 4) (.op2 .at (.var 2) (.cst (.int 1)))), (.op2 .at (.var 4) (.op2 .at (.var 2) (.cst (.int 2))))]))] []) [d0, some (false, .int M), some (b2, .lst [.int x, .int y, .int z]), d3, some (false, .tup QQ), some (false, SS), c6, some (false, .tup [RES, .lst []]), some (true, .lst []), none, none, none] = .nx [d0, some (false, .int M), some (b2, .lst [.int x, .int y, .int z]), d3, some (false, .tup QQ), some (false, SS), c6, some (false, .tup [RES, .lst []]), some (false, LF), none, none, none] := by
   simp only [xecs, xec, evT, ev, evs, frz, leaksT, leaks, leakss, rdR, rdV, Za, Zc, isOwn, frsh, Ze, Zf, Zi, Zj, Zk, Zl, Zq, if_true, Zu, ZG, ZI, hns, w3, n3, ax, ay, az, p3']
  have e5 : xec (Phi prog 8) prog.gls 1000 (.ite (.leaf (.op2 .eq (.var 8) (.lst []))) [(.ret (.call 15 [(.op2 .at (.var 7) (.cst (.int 1))), (.cst (.int 3))]))] []) [d0, some (false, .int M), some (b2, .lst [.int x, .int y, .int z]), d3, some (false, .tup QQ), some (false, SS), c6, some (false, .tup [RES, .lst []]), some (false, LF), none, none, none] = .nx [d0, some (false, .int M), some (b2, .lst [.int x, .int y, .int z]), d3, some (false, .tup QQ), some (false, SS), c6, some (false, .tup [RES, .lst []]), some (false, LF), none, none, none] := by
   simp only [xecs, xec, evT, ev, evs, frz, leaksT, leaks, leakss, rdR, rdV, Za, Zc, Zf, Zk, Zl, Zq, if_true, if_false, Bool.false_eq_true, ZJ, ne]
  have e6 : xec (Phi prog 8) prog.gls 1000 (.asg 9 (.call 18 [(.op2 .at (.var 4) (.op2 .at (.var 2) (.cst (.int 0)))), (.op2 .at (.var 4) (.op2 .at (.var 2) (.cst (.int 1)))), (.op2 .at (.var 4) (.op2 .at (.var 2) (.cst (.int 2)))), (.var 8)])) [d0, some (false, .int M), some (b2, .lst [.int x, .int y, .int z]), d3, some (false, .tup QQ), some (false, SS), c6, some (false, .tup [RES, .lst []]), some (false, LF), none, none, none] = .nx [d0, some (false, .int M), some (b2, .lst [.int x, .int y, .int z]), d3, some (false, .tup QQ), some (false, SS), c6, some (false, .tup [RES, .lst []]), some (false, LF), some (false, .lst [NC, NG, NH]), none, none] := by
   simp only [xec, ev, evs, frz, frz1, leaks, leakss, rdR, rdV, Zc, isOwn, frsh, Ze, Zf, Zi, Zj, Zk, Zl, Zo, Zq, if_true, if_false, Bool.false_eq_true, Zu, ZI, n3, ax, ay, az, pl]
  have e7 : xec (Phi prog 8) prog.gls 1000 (.asg 10 (.op1 .list (.var 4))) [d0, some (false, .int M), some (b2, .lst [.int x, .int y, .int z]), d3, some (false, .tup QQ), some (false, SS), c6, some (false, .tup [RES, .lst []]), some (false, LF), some (false, .lst [NC, NG, NH]), none, none] = .nx [d0, some (false, .int M), some (b2, .lst [.int x, .int y, .int z]), d3, some (false, .tup QQ), some (false, SS), c6, some (false, .tup [RES, .lst []]), some (false, LF), some (false, .lst [NC, NG, NH]), some (true, .lst QQ), none] := by
   simp only [xec, ev, frz, leaks, rdR, rdV, Zc, isOwn, frsh, Zf, Zi, Zj, Zk, Zl, if_true, Zt, ZS]
  have it3 : itemsD .rng [.int 3] = .ok [.int 0, .int 1, .int 2] := rfl
  have e8 : xec (Phi prog 8) prog.gls 1000 (.loop .rng [(.cst (.int 3))] [11] [(.put 10 (.op2 .at (.var 2) (.var 11)) (.op2 .at (.var 9) (.var 11)))]) [d0, some (false, .int M), some (b2, .lst [.int x, .int y, .int z]), d3, some (false, .tup QQ), some (false, SS), c6, some (false, .tup [RES, .lst []]), some (false, LF), some (false, .lst [NC, NG, NH]), some (true, .lst QQ), none] = .nx [d0, some (false, .int M), some (b2, .lst [.int x, .int y, .int z]), d3, some (false, .tup QQ), some (false, SS), c6, some (false, .tup [RES, .lst []]), some (false, LF), some (false, .lst [NC, NG, NH]), some (true, .lst (((QQ.set X NC).set Y NG).set Z NH)), some (false, .int 2)] := by
   simp only [xecs, xec, ev, evs, frz, leaks, leakss, rdR, rdV, Zc, Py.sets, spread, Ze, Zf, Zh, Zi, Zj, Zk, Zl, Zq, if_true, ZI, it3, Py.forM, n3, putD, ownL, i1, i2, i3, List.length_cons, List.length_nil, Nat.zero_add]
  rw [aG e1, aG e2, aG e3, aG e4, aG e5, aG e6, aG e7, aG e8]
  generalize ((QQ.set X NC).set Y NG).set Z NH = PP at *
  simp only [xecs, xec, ev, evs, frz, frz1, leaks, leakss, rdR, rdV, Zc, asB, Ze, Zf, Zi, Zj, Zk, Zl, Zo, Zq, if_true, if_false, Bool.false_eq_true, ZJ, at2_0, iB, eqn, hn, a51, hs']
  rfl
theorem law_true : ∀ ns : List Int, ns.length ≤ 63 → Phi prog depth lawId [.scr ns] = .ok (.bl true) := by
 intro ns _
 show (xecs (Phi prog 8) prog.gls 1000 mJ [some (false, .scr ns), none, none, none, none, none, none, none, none, none, none, none]).val = _
 have mc : ∀ (x c : Int), 0 < c → op2 .mod (.int x) (.int c) = .ok (.int (x % c)) := fun x c h => dA _ _ h
 have dc : ∀ (x c : Int), 0 < c ∧ c < 1073741824 → op2 .fdiv (.int x) (.int c) = .ok (.int (x / c)) := fun x c h => eG _ _ h
 have c0 : Phi prog 8 9 [.scr ns, .int 0] = _ := cE 7 ns 0
 have c4 : Phi prog 8 9 [.scr ns, .int 4] = _ := cE 7 ns 4
 have c5 : Phi prog 8 9 [.scr ns, .int 5] = _ := cE 7 ns 5
 have c6 : Phi prog 8 9 [.scr ns, .int 6] = _ := cE 7 ns 6
 have c7 : Phi prog 8 9 [.scr ns, .int 7] = _ := cE 7 ns 7
 have c8 : Phi prog 8 9 [.scr ns, .int 8] = _ := cE 7 ns 8
 have n3 : ∀ a b c : D, atD [a, b, c] 0 = some a ∧ atD [a, b, c] 1 = some b ∧ atD [a, b, c] 2 = some c := fun a b c => ⟨rfl, rfl, rfl⟩
 obtain ⟨m, hm, h3, em⟩ : ∃ m : Nat, m ≤ 10 ∧ 3 ≤ m ∧ 3 + cellV ns 0 % 8 = (m : Nat) := ⟨(3 + cellV ns 0 % 8).toNat, by omega, by omega, by omega⟩
 have m8 := fun x => mc x 8 (by decide)
 obtain ⟨c, g, h, ⟨hc, hg, hh, hcg, hch, hgh⟩, esp⟩ := p_spots 6 ns h3 hm
 have esp' : Phi prog 8 20 [.scr ns, .int (m : Nat)] = _ := esp
 have e1 : xec (Phi prog 8) prog.gls 1000 (.asg 1 (.op2 .add (.cst (.int 3)) (.op2 .mod (.call 9 [(.var 0), (.cst (.int 0))]) (.cst (.int 8))))) [some (false, .scr ns), none, none, none, none, none, none, none, none, none, none, none] = .nx [some (false, .scr ns), some (false, .int (m : Nat)), none, none, none, none, none, none, none, none, none, none] := by
  simp only [xec, ev, evs, frz, frz1, leaks, leakss, rdR, rdV, Zc, isOwn, frsh, Zf, Zi, Zj, Zk, Zo, Zq, if_false, Bool.false_eq_true, Zt, ZA, c0, m8, em]
 have e2 : xec (Phi prog 8) prog.gls 1000 (.asg 2 (.call 20 [(.var 0), (.var 1)])) [some (false, .scr ns), some (false, .int (m : Nat)), none, none, none, none, none, none, none, none, none, none] = .nx [some (false, .scr ns), some (false, .int (m : Nat)), some (false, .lst [.int (c : Nat), .int (g : Nat), .int (h : Nat)]), none, none, none, none, none, none, none, none, none] := by
  generalize ((m : Nat) : Int) = M at *
  simp only [xec, ev, evs, frz, frz1, leaks, leakss, rdR, rdV, Zc, isOwn, frsh, Zf, Zi, Zj, Zk, Zl, Zo, Zp, Zq, if_false, Bool.false_eq_true, Zu, esp']
 have e3 : xec (Phi prog 8) prog.gls 1000 (.asg 3 (.lst [])) [some (false, .scr ns), some (false, .int (m : Nat)), some (false, .lst [.int (c : Nat), .int (g : Nat), .int (h : Nat)]), none, none, none, none, none, none, none, none, none] = .nx [some (false, .scr ns), some (false, .int (m : Nat)), some (false, .lst [.int (c : Nat), .int (g : Nat), .int (h : Nat)]), some (true, .lst []), none, none, none, none, none, none, none, none] := by
  simp only [xec, ev, evs, frz, leaks, leakss, Zc, isOwn, frsh, Zf, Zi, Zj, Zt]
 have m6 := fun x => mc x 6 (by decide)
 have m16 := fun x => mc x 16 (by decide)
 obtain ⟨fx, b3, gp, hfl, hfx, e4⟩ : ∃ (fx : List (Nat × Nat)) (b3 : Bool), GP (startP m fx) ∧ fx.length ≤ 1000 ∧ (∀ x ∈ fx, x.1 < 4 * m ∧ x.2 < 4 * m) ∧ xec (Phi prog 8) prog.gls 1000 (.ite (.leaf (.op2 .gt (.op2 .mod (.call 9 [(.var 0), (.cst (.int 4))]) (.cst (.int 6))) (.cst (.int 0)))) [(.asg 3 (.call 19 [(.op2 .at (.var 2) (.cst (.int 0))), (.op2 .at (.var 2) (.cst (.int 1))), (.op2 .at (.var 2) (.cst (.int 2))), (.op2 .mod (.call 9 [(.var 0), (.cst (.int 5))]) (.cst (.int 16)))]))] []) [some (false, .scr ns), some (false, .int (m : Nat)), some (false, .lst [.int (c : Nat), .int (g : Nat), .int (h : Nat)]), some (true, .lst []), none, none, none, none, none, none, none, none] = .nx [some (false, .scr ns), some (false, .int (m : Nat)), some (false, .lst [.int (c : Nat), .int (g : Nat), .int (h : Nat)]), some (b3, .lst (fx.map pairD)), none, none, none, none, none, none, none, none] := by
  by_cases hz : decide (0 < cellV ns 4 % 6) = true
  ·obtain ⟨s, p, j, q, hs, hp, hj, hq, ec⟩ := oA 7 c g h (cellV ns 5 % 16)
   obtain ⟨g1, g2⟩ := lP (m := m) hc hg hh hcg hch hgh hs hp hj hq
   refine ⟨_, false, g1, by simp [cornV], g2, ?_⟩
   have ec' : Phi prog 8 19 [.int (c : Nat), .int (g : Nat), .int (h : Nat), .int (cellV ns 5 % 16)] = _ := ec
   generalize (cornV c g h s p j q).map pairD = FX at *
   generalize ((m : Nat) : Int) = M at *
   generalize ((c : Nat) : Int) = C at *
   generalize ((g : Nat) : Int) = GG at *
   generalize ((h : Nat) : Int) = HH at *
   simp only [xecs, xec, evT, ev, evs, frz, frz1, leaksT, leaks, leakss, rdR, rdV, Za, Zc, isOwn, frsh, Ze, Zf, Zi, Zj, Zk, Zl, Zo, Zq, if_true, if_false, Bool.false_eq_true, Zu, ZE, ZI, c4, c5, m6, m16, hz, n3, ec']
  ·refine ⟨[], true, GP.start0 m, by simp, by simp, ?_⟩
   have hz' : decide (0 < cellV ns 4 % 6) = false := by simpa using hz
   generalize ((m : Nat) : Int) = M at *
   generalize ((c : Nat) : Int) = C at *
   generalize ((g : Nat) : Int) = GG at *
   generalize ((h : Nat) : Int) = HH at *
   simp only [xecs, xec, evT, ev, evs, frz, frz1, leaksT, leaks, leakss, rdR, rdV, Za, Zc, isOwn, frsh, Zf, Zi, Zj, Zk, Zl, Zn, Zo, Zq, if_true, if_false, Bool.false_eq_true, Zu, ZE, ZI, c4, m6, hz', List.map_nil]
 have sh := j8 (pk := fun k => pickV ns (9 + k)) gp
 have ol := nX (fun k => pickV ns (9 + k)) m fx
 obtain ⟨k1, k2⟩ := gG m _ ol
 have hr : Phi prog 8 11 [.scr ns, .int 9, .int (m : Nat), .lst (fx.map pairD)] = _ := p_rowsF 5 ns 9 m (by omega) hfl hfx
 generalize chunks m (runP (fun k => pickV ns (9 + k)) (startP m fx)).owner = RR at *
 have hn : Phi prog 8 12 [.lst (RR.map rowD)] = _ := gN 7 k2 (by omega)
 generalize numV RR = Q at *
 obtain ⟨rg, erg⟩ : ∃ rg : Int, cellV ns 6 % 101 = rg := ⟨_, rfl⟩
 have m101 := fun x => mc x 101 (by decide)
 have e5 : ∃ b3', xec (Phi prog 8) prog.gls 1000 (.asg 4 (.call 12 [(.call 11 [(.var 0), (.cst (.int 9)), (.var 1), (.var 3)])])) [some (false, .scr ns), some (false, .int (m : Nat)), some (false, .lst [.int (c : Nat), .int (g : Nat), .int (h : Nat)]), some (b3, .lst (fx.map pairD)), none, none, none, none, none, none, none, none] = .nx [some (false, .scr ns), some (false, .int (m : Nat)), some (false, .lst [.int (c : Nat), .int (g : Nat), .int (h : Nat)]), some (b3', .lst (fx.map pairD)), some (false, .tup (Q.map rowD)), none, none, none, none, none, none, none] := by
  refine ⟨false, ?_⟩
  generalize fx.map pairD = FX at *
  generalize ((m : Nat) : Int) = M at *
  generalize ((c : Nat) : Int) = C at *
  generalize ((g : Nat) : Int) = GG at *
  generalize ((h : Nat) : Int) = HH at *
  cases b3 <;> simp only [xec, ev, evs, frz, frz1, leaks, leakss, rdR, rdV, Zc, isOwn, frsh, Zf, Zi, Zj, Zk, Zl, Zo, Zp, Zq, if_false, Bool.false_eq_true, Zu, hr, hn]
 obtain ⟨b3', e5⟩ := e5
 have e6 : xec (Phi prog 8) prog.gls 1000 (.asg 5 (.tup [(.var 4), (.op2 .mod (.call 9 [(.var 0), (.cst (.int 6))]) (.cst (.int 101)))])) [some (false, .scr ns), some (false, .int (m : Nat)), some (false, .lst [.int (c : Nat), .int (g : Nat), .int (h : Nat)]), some (b3', .lst (fx.map pairD)), some (false, .tup (Q.map rowD)), none, none, none, none, none, none, none] = .nx [some (false, .scr ns), some (false, .int (m : Nat)), some (false, .lst [.int (c : Nat), .int (g : Nat), .int (h : Nat)]), some (b3', .lst (fx.map pairD)), some (false, .tup (Q.map rowD)), some (false, shD Q rg), none, none, none, none, none, none] := by
  unfold shD
  generalize fx.map pairD = FX at *
  generalize Q.map rowD = QQ at *
  generalize ((m : Nat) : Int) = M at *
  generalize ((c : Nat) : Int) = C at *
  generalize ((g : Nat) : Int) = GG at *
  generalize ((h : Nat) : Int) = HH at *
  simp only [xec, ev, evs, frz, frz1, leaks, leakss, rdR, rdV, Zc, isOwn, frsh, Zf, Zi, Zj, Zk, Zl, Zo, Zp, Zq, if_false, Bool.false_eq_true, Zu, c6, m101, erg]
 obtain ⟨x1, y1, z1, hxyz⟩ : ∃ x1 y1 z1 : Int, x1 = (c : Nat) ∧ y1 = (g : Nat) ∧ z1 = (h : Nat) := ⟨_, _, _, rfl, rfl, rfl⟩
 obtain ⟨rfl, rfl, rfl⟩ := hxyz
 have m5 := fun x => mc x 5 (by decide)
 have d0 : ∀ D3 D5 : Slot, ∃ (b2 : Bool) (x y z : Int), xec (Phi prog 8) prog.gls 1000 (.ite (.leaf (.op2 .eq (.op2 .mod (.call 9 [(.var 0), (.cst (.int 7))]) (.cst (.int 5))) (.cst (.int 1)))) [(.asg 2 (.lst [(.op2 .at (.var 2) (.cst (.int 1))), (.op2 .at (.var 2) (.cst (.int 2))), (.op2 .at (.var 2) (.cst (.int 0)))]))] []) [some (false, .scr ns), some (false, .int (m : Nat)), some (false, .lst [.int (c : Nat), .int (g : Nat), .int (h : Nat)]), D3, some (false, .tup (Q.map rowD)), D5, none, none, none, none, none, none] = .nx [some (false, .scr ns), some (false, .int (m : Nat)), some (b2, .lst [.int x, .int y, .int z]), D3, some (false, .tup (Q.map rowD)), D5, none, none, none, none, none, none] := by
  intro D3 D5
  generalize Q.map rowD = QQ at *
  generalize ((m : Nat) : Int) = M at *
  generalize ((c : Nat) : Int) = C at *
  generalize ((g : Nat) : Int) = GG at *
  generalize ((h : Nat) : Int) = HH at *
  by_cases hz : (cellV ns 7 % 5 == 1) = true
  ·exact ⟨true, GG, HH, C, by simp only [xecs, xec, evT, ev, evs, frz, frz1, leaksT, leaks, leakss, rdR, rdV, Za, Zc, isOwn, frsh, Ze, Zf, Zi, Zj, Zk, Zl, Zq, if_true, if_false, Bool.false_eq_true, Zt, ZG, ZI, c7, m5, hz, n3]⟩
  ·have hz' : (cellV ns 7 % 5 == 1) = false := by simpa using hz
   exact ⟨false, C, GG, HH, by simp only [xecs, xec, evT, ev, evs, frz, frz1, leaksT, leaks, leakss, rdR, rdV, Za, Zc, isOwn, frsh, Zf, Zi, Zj, Zk, Zl, Zq, if_true, if_false, Bool.false_eq_true, Zt, ZG, ZI, c7, m5, hz']⟩
 obtain ⟨b2, x, y, z, e7⟩ := d0 (some (b3', .lst (fx.map pairD))) (some (false, shD Q rg))
 have mM2 := fun x => mc x ((m : Nat) + 2) (by omega)
 have d12 := fun x => dc x 12 (by decide)
 have d144 := fun x => dc x 144 (by decide)
 have d2048 := fun x => dc x 2048 (by decide)
 have d6144 := fun x => dc x 6144 (by decide)
 have d18432 := fun x => dc x 18432 (by decide)
 have mm3 := fun x => mc x 3 (by decide)
 obtain ⟨b2', x', y', z', c6', e8⟩ : ∃ (b2' : Bool) (x' y' z' : Int) (c6' : Slot), xec (Phi prog 8) prog.gls 1000 (.ite (.leaf (.op2 .eq (.op2 .mod (.call 9 [(.var 0), (.cst (.int 7))]) (.cst (.int 5))) (.cst (.int 2)))) [(.asg 6 (.call 9 [(.var 0), (.cst (.int 8))])), (.asg 2 (.lst [(.op2 .sub (.op2 .mod (.var 6) (.op2 .add (.var 1) (.cst (.int 2)))) (.cst (.int 1))), (.op2 .sub (.op2 .mod (.op2 .fdiv (.var 6) (.cst (.int 12))) (.op2 .add (.var 1) (.cst (.int 2)))) (.cst (.int 1))), (.op2 .sub (.op2 .mod (.op2 .fdiv (.var 6) (.cst (.int 144))) (.op2 .add (.var 1) (.cst (.int 2)))) (.cst (.int 1)))])), (.ite (.leaf (.op2 .eq (.op2 .mod (.op2 .fdiv (.var 6) (.cst (.int 2048))) (.cst (.int 3))) (.cst (.int 1)))) [(.put 2 (.op2 .mod (.op2 .fdiv (.var 6) (.cst (.int 6144))) (.cst (.int 3))) (.call 21 [(.op2 .fdiv (.var 6) (.cst (.int 18432))), (.var 1)]))] [])] []) [some (false, .scr ns), some (false, .int (m : Nat)), some (b2, .lst [.int x, .int y, .int z]), some (b3', .lst (fx.map pairD)), some (false, .tup (Q.map rowD)), some (false, shD Q rg), none, none, none, none, none, none] = .nx [some (false, .scr ns), some (false, .int (m : Nat)), some (b2', .lst [.int x', .int y', .int z']), some (b3', .lst (fx.map pairD)), some (false, .tup (Q.map rowD)), some (false, shD Q rg), c6', none, none, none, none, none] := by
  obtain ⟨v, hv⟩ := p_far 7 (cellV ns 8 / 18432) (m : Nat)
  have hv' : Phi prog 8 21 [.int (cellV ns 8 / 18432), .int (m : Nat)] = .ok (.int v) := hv
  generalize Q.map rowD = QQ at *
  generalize shD Q rg = SS at *
  generalize fx.map pairD = FX at *
  generalize ((m : Nat) : Int) = M at *
  generalize cellV ns 8 = C8 at *
  by_cases hz : (cellV ns 7 % 5 == 2) = true
  ·by_cases hw : (C8 / 2048 % 3 == 1) = true
   ·have h012 : C8 / 6144 % 3 = 0 ∨ C8 / 6144 % 3 = 1 ∨ C8 / 6144 % 3 = 2 := by omega
    have x0 : ∀ a b d : D, ixD [a, b, d].length 0 = some 0 ∧ ixD [a, b, d].length 1 = some 1 ∧ ixD [a, b, d].length 2 = some 2 := fun _ _ _ => ⟨rfl, rfl, rfl⟩
    rcases h012 with q | q | q
    ·exact ⟨true, v, C8 / 12 % (M + 2) - 1, C8 / 144 % (M + 2) - 1, some (false, .int C8), by simp only [xecs, xec, evT, ev, evs, frz, frz1, leaksT, leaks, leakss, rdR, rdV, Za, Zc, isOwn, frsh, Zf, Zi, Zj, Zk, Zl, Zo, Zq, if_true, if_false, Bool.false_eq_true, Zt, Zu, ZA, ZB, ZG, c7, c8, m5, hz, mM2, d12, d144, d2048, d6144, d18432, mm3, hw, q, hv', putD, ownL, x0]⟩
    ·exact ⟨true, C8 % (M + 2) - 1, v, C8 / 144 % (M + 2) - 1, some (false, .int C8), by simp only [xecs, xec, evT, ev, evs, frz, frz1, leaksT, leaks, leakss, rdR, rdV, Za, Zc, isOwn, frsh, Zf, Zi, Zj, Zk, Zl, Zo, Zq, if_true, if_false, Bool.false_eq_true, Zt, Zu, ZA, ZB, ZG, c7, c8, m5, hz, mM2, d12, d144, d2048, d6144, d18432, mm3, hw, q, hv', putD, ownL, x0]⟩
    ·exact ⟨true, C8 % (M + 2) - 1, C8 / 12 % (M + 2) - 1, v, some (false, .int C8), by simp only [xecs, xec, evT, ev, evs, frz, frz1, leaksT, leaks, leakss, rdR, rdV, Za, Zc, isOwn, frsh, Zf, Zi, Zj, Zk, Zl, Zo, Zq, if_true, if_false, Bool.false_eq_true, Zt, Zu, ZA, ZB, ZG, c7, c8, m5, hz, mM2, d12, d144, d2048, d6144, d18432, mm3, hw, q, hv', putD, ownL, x0]⟩
   ·have hw' : (C8 / 2048 % 3 == 1) = false := by simpa using hw
    exact ⟨true, C8 % (M + 2) - 1, C8 / 12 % (M + 2) - 1, C8 / 144 % (M + 2) - 1, some (false, .int C8), by simp only [xecs, xec, evT, ev, evs, frz, frz1, leaksT, leaks, leakss, rdR, rdV, Za, Zc, isOwn, frsh, Zf, Zi, Zj, Zk, Zl, Zo, Zq, if_true, if_false, Bool.false_eq_true, Zt, Zu, ZA, ZB, ZG, c7, c8, m5, hz, mM2, d12, d144, d2048, mm3, hw']⟩
  ·have hz' : (cellV ns 7 % 5 == 2) = false := by simpa using hz
   exact ⟨b2, x, y, z, none, by simp only [xecs, xec, evT, ev, evs, frz, frz1, leaksT, leaks, leakss, rdR, rdV, Za, Zc, isOwn, frsh, Zf, Zi, Zj, Zk, Zo, Zq, if_true, if_false, Bool.false_eq_true, Zt, Zu, ZG, c7, m5, hz']⟩
 unfold mJ
 rw [aG e1, aG e2, aG e3, aG e4, aG e5, aG e6, aG e7, aG e8]
 exact qT sh hm
end L
open PySem PySem.W PyProof.Rows
set_option maxRecDepth 100000 in
set_option maxHeartbeats 0 in
theorem PySem.Challenge.cw_cordbook_k09_slid_holds : PySem.Challenge.rw_cordbook_k09_slid.Holds := by
 w_on; o_law; k_head; (case hw => w_witness2)
 k_fill
 refine L2.Snd.walk_law (l := PySem.Challenge.rw_cordbook_k09_slid) (Pg := L.prog) (f := L.lawId) (j := L.depth) L.law_true rfl rfl (fun w h Y => PySem.W.kIn_of Y) ?F (by decide)
 case F =>
  intro w mg mb mean fa h KX Tp hmg
  refine' L.all_mk KX Tp hmg ?sp0 ?sp1 ?a0 ?l0 ?c0 ?k0 ?a1 ?l1 ?c1 ?k1 ?a2 ?l2 ?c2 ?k2 ?a3 ?l3 ?c3 ?k3 ?a4 ?l4 ?c4 ?k4 ?a5 ?l5 ?c5 ?k5 ?a6 ?l6 ?c6 ?k6 ?a7 ?l7 ?c7 ?k7 ?a8 ?l8 ?c8 ?k8 ?a9 ?l9 ?c9 ?k9 ?a10 ?l10 ?c10 ?k10 ?a11 ?l11 ?c11 ?k11 ?a12 ?l12 ?c12 ?k12 ?a13 ?l13 ?c13 ?k13 ?a14 ?l14 ?c14 ?k14 ?a15 ?l15 ?c15 ?k15 ?a16 ?l16 ?c16 ?k16 ?a17 ?l17 ?c17 ?k17 ?a18 ?l18 ?c18 ?k18 ?a19 ?l19 ?c19 ?k19 ?a20 ?l20 ?c20 ?k20 ?a21 ?l21 ?c21 ?k21 ?a22 ?l22 ?c22 ?k22 ?z_bool ?z_int ?z_isinstance ?z_len ?z_list ?z_max ?z_min ?z_range ?z_set ?z_tuple ?z_ValueError ?n_NoPlace ?n_NoMove ?n_CordError ?n_Crowded ?n_NoSheet ?n_NoNote ?gs ?tk ?ga0 ?gt0 ?gc0 ?go0 ?gb0 ?ga1 ?gt1 ?gc1 ?go1 ?gb1 ?cc0 ?ct0_ ?ss0 ?cc1 ?ct1_ ?ss1 ?cc2 ?ct2_ ?ss2 ?cc3 ?ct3_ ?ss3 ?cc4 ?ct4_ ?ss4 ?cc5 ?ct5_ ?ss5 ?u0_2 ?u1_2 ?u0_3 ?u1_3 ?u0_1 ?u0_5 ?u1_5 ?u1_0 ?u0_4 ?u1_4 ?v0_ValueError ?v1_ValueError ?be_CordError L.depth
  (case sp0 => first | rfl | decide +kernel)
  (case sp1 => first | rfl | decide +kernel)
  (case a0 => k_is)
  (case l0 => k_is)
  (case c0 => k_is)
  (case k0 => k_is)
  (case a1 => k_is)
  (case l1 => k_is)
  (case c1 => k_is)
  (case k1 => k_is)
  (case a2 => k_is)
  (case l2 => k_is)
  (case c2 => k_is)
  (case k2 => k_is)
  (case a3 => k_is)
  (case l3 => k_is)
  (case c3 => k_is)
  (case k3 => k_is)
  (case a4 => k_is)
  (case l4 => k_is)
  (case c4 => k_is)
  (case k4 => k_is)
  (case a5 => k_is)
  (case l5 => k_is)
  (case c5 => k_is)
  (case k5 => k_is)
  (case a6 => k_is)
  (case l6 => k_is)
  (case c6 => k_is)
  (case k6 => k_is)
  (case a7 => k_is)
  (case l7 => k_is)
  (case c7 => k_is)
  (case k7 => k_is)
  (case a8 => k_is)
  (case l8 => k_is)
  (case c8 => k_is)
  (case k8 => k_is)
  (case a9 => k_is)
  (case l9 => k_is)
  (case c9 => k_is)
  (case k9 => k_is)
  (case a10 => k_is)
  (case l10 => k_is)
  (case c10 => k_is)
  (case k10 => k_is)
  (case a11 => k_is)
  (case l11 => k_is)
  (case c11 => k_is)
  (case k11 => k_is)
  (case a12 => k_is)
  (case l12 => k_is)
  (case c12 => k_is)
  (case k12 => k_is)
  (case a13 => k_is)
  (case l13 => k_is)
  (case c13 => k_is)
  (case k13 => k_is)
  (case a14 => k_is)
  (case l14 => k_is)
  (case c14 => k_is)
  (case k14 => k_is)
  (case a15 => k_is)
  (case l15 => k_is)
  (case c15 => k_is)
  (case k15 => k_is)
  (case a16 => k_is)
  (case l16 => k_is)
  (case c16 => k_is)
  (case k16 => k_is)
  (case a17 => k_is)
  (case l17 => k_is)
  (case c17 => k_is)
  (case k17 => k_is)
  (case a18 => k_is)
  (case l18 => k_is)
  (case c18 => k_is)
  (case k18 => k_is)
  (case a19 => k_is)
  (case l19 => k_is)
  (case c19 => k_is)
  (case k19 => k_is)
  (case a20 => k_is)
  (case l20 => k_is)
  (case c20 => k_is)
  (case k20 => k_is)
  (case a21 => k_is)
  (case l21 => k_is)
  (case c21 => k_is)
  (case k21 => k_is)
  (case a22 => k_is)
  (case l22 => k_is)
  (case c22 => k_is)
  (case k22 => k_is)
  (case z_bool => k_is)
  (case z_int => k_is)
  (case z_isinstance => k_is)
  (case z_len => k_is)
  (case z_list => k_is)
  (case z_max => k_is)
  (case z_min => k_is)
  (case z_range => k_is)
  (case z_set => k_is)
  (case z_tuple => k_is)
  (case z_ValueError => k_is)
  (case n_NoPlace => k_is)
  (case n_NoMove => k_is)
  (case n_CordError => k_is)
  (case n_Crowded => k_is)
  (case n_NoSheet => k_is)
  (case n_NoNote => k_is)
  (case gs => k_is)
  (case tk => k_is)
  (case ga0 => k_is)
  (case gt0 => k_is)
  (case gc0 => k_is)
  (case go0 => k_is)
  (case gb0 => k_is)
  (case ga1 => k_is)
  (case gt1 => k_is)
  (case gc1 => k_is)
  (case go1 => k_is)
  (case gb1 => k_is)
  (case cc0 => k_is)
  (case ct0_ => k_is)
  (case ss0 => k_is)
  (case cc1 => k_is)
  (case ct1_ => k_is)
  (case ss1 => k_is)
  (case cc2 => k_is)
  (case ct2_ => k_is)
  (case ss2 => k_is)
  (case cc3 => k_is)
  (case ct3_ => k_is)
  (case ss3 => k_is)
  (case cc4 => k_is)
  (case ct4_ => k_is)
  (case ss4 => k_is)
  (case cc5 => k_is)
  (case ct5_ => k_is)
  (case ss5 => k_is)
  (case u0_2 => k_is)
  (case u1_2 => k_is)
  (case u0_3 => k_is)
  (case u1_3 => k_is)
  (case u0_1 => k_is)
  (case u0_5 => k_is)
  (case u1_5 => k_is)
  (case u1_0 => k_is)
  (case u0_4 => k_is)
  (case u1_4 => k_is)
  (case v0_ValueError => k_is)
  (case v1_ValueError => k_is)
  (case be_CordError => k_is)
