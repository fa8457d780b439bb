import PyProof.Rows.All
import Wide.All
import OpenK.AllK
import Wide.FinOn
import Lean
import PyProof.EqAt
import PyProof.EqKinds
import PyProof.TupleCall
import PyProof.NeKinds
import PySem.Challenge.RW_lampwatch_k16_read
set_option Elab.async false
set_option linter.all false
set_option maxRecDepth 100000

set_option maxRecDepth 100000
namespace L2
open PySem PySem.Spec PyProof.Rows

abbrev Key := Sum Int Str
def keyIs : Key → Value → Bool
  | .inl k, v => Value.isInt k v
  | .inr x, v => Value.isStrOf x v
def keyH (w : World) : Key → Int
  | .inl k => hashInt k
  | .inr x => hashStr w x
theorem keyIs_shape : ∀ {k : Key} {v : Value}, keyIs k v = true → (∃ i t, k = Sum.inl i ∧ v = Value.int i t) ∨ (∃ x t, k = Sum.inr x ∧ v = Value.str x t)
  | .inl i, v, h => by
    obtain ⟨t, e⟩ := Value.isInt_shape (k := i) (v := v) h
    exact .inl ⟨i, t, rfl, e⟩
  | .inr x, v, h => by
    obtain ⟨t, e⟩ := Value.isStrOf_shape (x := x) (v := v) h
    exact .inr ⟨x, t, rfl, e⟩
theorem key_ll (a b : Int) : decide ((Sum.inl a : Key) = Sum.inl b) = (a == b) := by
  by_cases e : a = b
  · subst e; simp
  · have h : ¬ (Sum.inl a : Key) = Sum.inl b := fun q => e (Sum.inl.inj q)
    rw [decide_eq_false h]
    exact (beq_eq_false_iff_ne.mpr e).symm
theorem key_rr (a b : Str) : decide ((Sum.inr a : Key) = Sum.inr b) = decide (a = b) := by
  by_cases e : a = b
  · subst e; simp
  · have h : ¬ (Sum.inr a : Key) = Sum.inr b := fun q => e (Sum.inr.inj q)
    rw [decide_eq_false h, decide_eq_false e]
theorem key_lr (a : Int) (b : Str) : decide ((Sum.inl a : Key) = Sum.inr b) = false := decide_eq_false (fun q => nomatch q)
theorem key_rl (a : Str) (b : Int) : decide ((Sum.inr a : Key) = Sum.inl b) = false := decide_eq_false (fun q => nomatch q)

def mixKind (prog : Program) (w : World) : PySem.KeyKind prog w Key where
  is := keyIs
  hash := keyH w
  inj := fun v a b ha hb => by
    rcases keyIs_shape ha with ⟨i, t, rfl, rfl⟩ | ⟨x, t, rfl, rfl⟩
    · rcases keyIs_shape hb with ⟨j, u, rfl, e⟩ | ⟨y, u, rfl, e⟩
      · injection e with e1 _; rw [e1]
      · exact nomatch e
    · rcases keyIs_shape hb with ⟨j, u, rfl, e⟩ | ⟨y, u, rfl, e⟩
      · exact nomatch e
      · injection e with e1 _; rw [e1]
  byValue := fun k v h => by
    rcases keyIs_shape h with ⟨i, t, rfl, rfl⟩ | ⟨x, t, rfl, rfl⟩ <;> rfl
  pyHash := fun hv h => by
    rcases keyIs_shape hv with ⟨i, t, rfl, rfl⟩ | ⟨x, t, rfl, rfl⟩
    · exact wpAny_pyHash_int h
    · exact wpAny_pyHash_str h
  eqBool := fun hu hv h => by
    rcases keyIs_shape hu with ⟨i, t, rfl, rfl⟩ | ⟨x, t, rfl, rfl⟩
    · rcases keyIs_shape hv with ⟨j, u, rfl, rfl⟩ | ⟨y, u, rfl, rfl⟩
      · rw [key_ll] at h; exact wpAny_eqBool_int h
      · rw [key_lr] at h; exact SeqAt.EqAt.int_str i t y u _ _ _ _ h
    · rcases keyIs_shape hv with ⟨j, u, rfl, rfl⟩ | ⟨y, u, rfl, rfl⟩
      · rw [key_rl] at h; exact SeqAt.EqAt.str_int x t j u _ _ _ _ h
      · rw [key_rr] at h; exact wpAny_eqBool_str h
  «strs» := fun k x t v h => by
    rcases keyIs_shape h with ⟨i, u, rfl, e⟩ | ⟨y, u, rfl, e⟩
    · exact nomatch e
    · injection e with e1 _
      subst e1
      cases v <;> rfl

end L2

namespace L2
open PySem PySem.Spec PyProof.Rows

inductive V where
  | non | bl (b : Bool) | int (i : Int) | str (x : Str) | byt (b : Array UInt8) | flt (b : UInt64) | ref (a : Addr) | ty (n : String)
  deriving DecidableEq

def RelV : V → Value → Prop
  | .non, u => u = Value.none
  | .bl b, u => u = Value.bool b
  | .int i, u => ∃ t, u = Value.int i t
  | .str x, u => ∃ t, u = Value.str x t
  | .byt b, u => ∃ t, u = Value.bytes b t
  | .flt b, u => ∃ t, u = Value.float b t
  | .ref a, u => u = Value.ref a
  | .ty n, u => u = Value.type n

abbrev Vals : List V → List Value → Prop := Paired RelV
theorem Vals.length {xs : List V} {us : List Value} (r : Vals xs us) : xs.length = us.length := Paired.length r
theorem Vals.get : ∀ {xs : List V} {us : List Value} {i : Nat} {x : V}, Vals xs us → xs[i]? = some x → ∃ u, us[i]? = some u ∧ RelV x u
  | _, _, _, _, .nil, e => by simp at e
  | _, _, 0, _, .cons r _, e => by simp at e; subst e; exact ⟨_, rfl, r⟩
  | _, _, i + 1, x, .cons _ t, e => by
    obtain ⟨u, h1, h2⟩ := Vals.get (i := i) (x := x) t (by simpa using e)
    exact ⟨u, by simpa using h1, h2⟩
theorem Vals.set {x : V} {u : Value} (r : RelV x u) : ∀ {xs : List V} {us : List Value} (i : Nat), Vals xs us → Vals (xs.set i x) (us.set i u)
  | _, _, _, .nil => .nil
  | _, _, 0, .cons _ t => .cons r t
  | _, _, i + 1, .cons q t => .cons q (Vals.set r i t)
theorem Vals.append : ∀ {xs ys : List V} {us ws : List Value}, Vals xs us → Vals ys ws → Vals (xs ++ ys) (us ++ ws)
  | _, _, _, _, .nil, s => s
  | _, _, _, _, .cons r t, s => .cons r (Vals.append t s)
theorem Vals.take : ∀ {xs : List V} {us : List Value} (n : Nat), Vals xs us → Vals (xs.take n) (us.take n)
  | _, _, 0, _ => .nil
  | _, _, _ + 1, .nil => .nil
  | _, _, n + 1, .cons r t => .cons r (Vals.take n t)
theorem Vals.drop : ∀ {xs : List V} {us : List Value} (n : Nat), Vals xs us → Vals (xs.drop n) (us.drop n)
  | _, _, 0, r => r
  | _, _, _ + 1, .nil => .nil
  | _, _, n + 1, .cons _ t => Vals.drop n t
theorem Vals.none_of : ∀ {xs : List V} {us : List Value} {i : Nat}, Vals xs us → xs[i]? = none → us[i]? = none := fun {xs us i} r e => by
  have h1 := r.length
  have h2 : xs.length ≤ i := List.getElem?_eq_none_iff.mp e
  exact List.getElem?_eq_none_iff.mpr (by omega)

def RelO : Option V → Option Value → Prop
  | some v, some u => RelV v u
  | none, none => True
  | _, _ => False
def KV {κ : Type} : List (κ × V) → List (κ × Value) → Prop := Paired fun (p : κ × V) (q : κ × Value) => p.1 = q.1 ∧ RelV p.2 q.2

def kV : Key → V
  | .inl i => .int i
  | .inr x => .str x

inductive HO where
    | lst (xs : List V)
    | tup (xs : List V)
    | dK (kvs : List (Key × V)) | dT (kvs : List (List Key × V))
    | set (S : Int → Bool) (n : Nat)
    | ins (C dx : Addr) (fs : List (Str × V))
    | own (x : Addr)
    | xd (fs : List (Str × V))
    | met (f x : Addr)
    | rng (lo hi : Int)
    | frz (o : Obj) (u : HO)
    | tbl (ps : Array Value)
    | ext (φ : Heap → Prop)

abbrev Hp := Addr → Option HO
def upd (H : Hp) (a : Addr) (o : HO) : Hp := fun b => if b = a then some o else H b
theorem upd_same {H : Hp} {a : Addr} {o : HO} : upd H a o a = some o := by unfold upd; rw [if_pos rfl]
theorem upd_ne {H : Hp} {a b : Addr} {o : HO} (h : b ≠ a) : upd H a o b = H b := by unfold upd; rw [if_neg h]
theorem upd_upd {H : Hp} {a : Addr} {o u : HO} : upd (upd H a o) a u = upd H a u := by
  funext b; unfold upd; split <;> rfl
theorem ne_of_none {H : Hp} {a b : Addr} {o : HO} (h : H a = some o) (h' : H b = none) : a ≠ b := by
  intro e; subst e; rw [h] at h'; cases h'

section
variable (P : Program) (w : World)
def ObjOk (H : Hp) (h : Heap) (a : Addr) : HO → Prop
  | .lst xs => xs.length ≤ sizeLine ∧ ∃ (its : List Value) (n : Nat), Vals xs its ∧ h.get? a = some { cls := .type "list", data := .seq its.toArray n }
  | .tup xs => xs.length ≤ sizeLine ∧ ∃ its : List Value, Vals xs its ∧ IsTup h a its.toArray
  | .dK kvs => kvs.length ≤ sizeLine ∧ (a == sysModules) = false ∧ ∃ vs, KV kvs vs ∧ h.DictOf (mixKind P w) a vs
  | .dT kvs => kvs.length ≤ sizeLine ∧ (a == sysModules) = false ∧ ∃ xs : List (List Key × Addr × Value),
      Paired (fun (p : List Key × V) (q : List Key × Addr × Value) => p.1 = q.1 ∧ H q.2.1 = some (.tup (p.1.map kV)) ∧ RelV p.2 q.2.2) kvs xs ∧
      ∃ o es ep, h.get? a = some o ∧ o.ExactDict ∧ o.data = .dict es ep ∧ es.toList = xs.map (entryOfKey (tupleKind (mixKind P w))) ∧ (xs.map (·.1)).Nodup
  | .set S n => h.SetOf (intKind P w) a S n
  | .ins C dx fs => H dx = some (.own a) ∧ fs.length ≤ 1000 ∧ dx ≠ a ∧ h.get? a = some (PySem.W.instObj C dx) ∧
      ∃ mA, h.Ns1 dx mA ∧ (∀ f, RelO (fs.lookup f) (mA f)) ∧ PySem.Within mA (fs.map (·.1))
  | .own _ => ∃ o, h.get? a = some o
  | .xd fs => ∃ mA, h.Ns1 a mA ∧ ∀ f, RelO (fs.lookup f) (mA f)
  | .rng lo hi => ∃ t u v, h.get? a = some { cls := .type "range", data := .fields #[.int lo t, .int hi u, .int 1 v] }
  | .frz o u => h.get? a = some o ∧ ObjOk H h a u
  | .tbl ps => h.get? a = some { cls := .none, data := .fields ps }
  | .met f x => h.get? a = some (PySem.W.methodObj (.ref f) (.ref x))
  | .ext φ => φ h ∧ (∃ o, h.get? a = some o) ∧ ∀ h1 h2 : Heap, φ h1 → (∀ o, h1.get? a = some o → h2.get? a = some o) → φ h2
def HOk (H : Hp) (h : Heap) : Prop := ∀ a o, H a = some o → ObjOk P w H h a o
end

section
variable {P : Program} {w : World} {H H' : Hp} {h h' : Heap} {a : Addr} {o : HO}
theorem ObjOk.lt (x : ObjOk P w H h a o) : a < h.objs.size := by
  cases o with
  | lst xs => obtain ⟨_, _, _, _, e⟩ := x; exact Heap.lt_size e
  | tup xs => obtain ⟨_, _, _, p⟩ := x; exact p.lt
  | dK kvs => obtain ⟨_, _, _, _, o, _, _, e, _⟩ := x; exact Heap.lt_size e
  | dT kvs => obtain ⟨_, _, _, _, o, _, _, e, _⟩ := x; exact Heap.lt_size e
  | set S n => obtain ⟨o, _, _, _, e, _⟩ := x; exact Heap.lt_size e
  | ins C dx fs => obtain ⟨_, _, _, e, _⟩ := x; exact Heap.lt_size e
  | own y => obtain ⟨_, e⟩ := x; exact Heap.lt_size e
  | xd fs => obtain ⟨_, ⟨_, _, _, e, _⟩, _⟩ := x; exact Heap.lt_size e
  | rng lo hi => obtain ⟨_, _, _, e⟩ := x; exact Heap.lt_size e
  | frz ob u => obtain ⟨e, _⟩ := x; exact Heap.lt_size e
  | tbl ps => exact Heap.lt_size (show h.get? a = some _ from x)
  | met f y => exact Heap.lt_size (show h.get? a = some _ from x)
  | ext φ => obtain ⟨_, ⟨_, e⟩, _⟩ := x; exact Heap.lt_size e
theorem Paired.mapP {α β : Type} {F G : α → β → Prop} : ∀ {l₁ : List α} {l₂ : List β}, Paired F l₁ l₂ → (∀ a b, F a b → G a b) → Paired G l₁ l₂
  | _, _, .nil, _ => .nil
  | _, _, .cons r t, f => .cons (f _ _ r) (Paired.mapP t f)
theorem ObjOk.stay (x : ObjOk P w H h a o) (k : ∀ b u, (b = a ∨ H b = some (.own a)) → h.get? b = some u → h'.get? b = some u)
    (ho : ∀ b, H b = some (.own a) → H' b = some (.own a)) (ht : ∀ b xs, H b = some (.tup xs) → H' b = some (.tup xs)) : ObjOk P w H' h' a o := by
  induction o with
  | lst xs => obtain ⟨z, its, n, r, e⟩ := x; exact ⟨z, its, n, r, k _ _ (.inl rfl) e⟩
  | tup xs => obtain ⟨z, its, r, ob, e, c⟩ := x; exact ⟨z, its, r, ob, k _ _ (.inl rfl) e, c⟩
  | dK kvs => obtain ⟨z, y, vs, r, ob, es, ep, e, c⟩ := x; exact ⟨z, y, vs, r, ob, es, ep, k _ _ (.inl rfl) e, c⟩
  | dT kvs =>
    obtain ⟨z, y, xs, r, ob, es, ep, e, c⟩ := x
    exact ⟨z, y, xs, Paired.mapP r fun p q z => ⟨z.1, ht _ _ z.2.1, z.2.2⟩, ob, es, ep, k _ _ (.inl rfl) e, c⟩
  | set S n => obtain ⟨ob, es, ep, t, e, c⟩ := x; exact ⟨ob, es, ep, t, k _ _ (.inl rfl) e, c⟩
  | ins C dx fs =>
    obtain ⟨d, z, ne, e, mA, ⟨od, es, ep, e2, c⟩, r⟩ := x
    exact ⟨ho _ d, z, ne, k _ _ (.inl rfl) e, mA, ⟨od, es, ep, k _ _ (.inr d) e2, c⟩, r⟩
  | own y => obtain ⟨ob, e⟩ := x; exact ⟨ob, k _ _ (.inl rfl) e⟩
  | xd fs => obtain ⟨mA, ⟨od, es, ep, e, c⟩, r⟩ := x; exact ⟨mA, ⟨od, es, ep, k _ _ (.inl rfl) e, c⟩, r⟩
  | rng lo hi => obtain ⟨t, u, v, e⟩ := x; exact ⟨t, u, v, k _ _ (.inl rfl) e⟩
  | frz ob u ih => obtain ⟨e, q⟩ := x; exact ⟨k _ _ (.inl rfl) e, ih q⟩
  | tbl ps =>
    have e : h.get? a = some { cls := .none, data := .fields ps } := x
    show h'.get? a = some { cls := .none, data := .fields ps }
    exact k a _ (.inl rfl) e
  | met f y =>
    have e : h.get? a = some (PySem.W.methodObj (.ref f) (.ref y)) := x
    show h'.get? a = some (PySem.W.methodObj (.ref f) (.ref y))
    exact k a _ (.inl rfl) e
  | ext φ => obtain ⟨p, ⟨o, e⟩, st⟩ := x; exact ⟨st _ _ p fun o q => k _ _ (.inl rfl) q, ⟨o, k _ _ (.inl rfl) e⟩, st⟩
theorem HOk.lt (x : HOk P w H h) (e : H a = some o) : a < h.objs.size := (x a o e).lt
theorem HOk.fresh (x : HOk P w H h) (e : h.objs.size ≤ a) : H a = none := by
  cases q : H a with
  | none => rfl
  | some u => exact absurd (Nat.lt_of_lt_of_le (x.lt q) e) (Nat.lt_irrefl _)
theorem HOk.kept (x : HOk P w H h) (k : ∀ b u, h.get? b = some u → h'.get? b = some u) : HOk P w H h' := fun a o e =>
  (x a o e).stay (fun b u _ q => k b u q) (fun _ q => q) fun _ _ q => q
theorem HOk.laid (x : HOk P w H h) (k : ∀ b u, h.get? b = some u → h'.get? b = some u) (hp : h.objs.size ≤ a) (new : ObjOk P w (upd H a o) h' a o) : HOk P w (upd H a o) h' := fun b u e => by
  have hn := x.fresh hp
  by_cases hb : b = a
  · subst hb; rw [upd_same] at e; cases e; exact new
  · rw [upd_ne hb] at e
    exact (x b u e).stay (fun c v _ q => k c v q) (fun c q => by rw [upd_ne (ne_of_none q hn)]; exact q) fun c xs q => by rw [upd_ne (ne_of_none q hn)]; exact q
end

def Rd (H : Hp) (a : Addr) (u : HO) : Prop := H a = some u ∨ ∃ o, H a = some (.frz o u)
theorem Rd.of {H : Hp} {a : Addr} {u : HO} (h : H a = some u) : Rd H a u := .inl h
theorem Rd.ok {P : Program} {w : World} {H : Hp} {h : Heap} {a : Addr} {u : HO} (r : Rd H a u) (x : HOk P w H h) : ObjOk P w H h a u := by
  rcases r with r | ⟨o, r⟩
  · exact x a u r
  · obtain ⟨_, q⟩ := x a _ r
    exact q
def Mut : Option HO → Prop
  | some (.lst _) => True
  | some (.dK _) => True
  | some (.dT _) => True
  | some (.set _ _) => True
  | some (.ins _ _ _) => True
  | some (.ext _) => True
  | _ => False
section
variable {P : Program} {w : World} {H : Hp} {h h' : Heap} {x e : Addr} {o' : HO}
theorem HOk.write (ok : HOk P w H h) (mu : Mut (H x)) (he : e = x ∨ H e = some (.own x)) (k : ∀ b u, b ≠ e → h.get? b = some u → h'.get? b = some u) (heo : ∃ u, h'.get? e = some u)
    (new : ObjOk P w (upd H x o') h' x o') : HOk P w (upd H x o') h' := fun b u q => by
  have nown : ∀ c y, H c = some (.own y) → c ≠ x := fun c y r z => by subst z; rw [r] at mu; exact mu
  have ntup : ∀ c xs, H c = some (.tup xs) → c ≠ x := fun c xs r z => by subst z; rw [r] at mu; exact mu
  by_cases hb : b = x
  · subst hb; rw [upd_same] at q; cases q; exact new
  · rw [upd_ne hb] at q
    by_cases hbe : b = e
    · have q' : H b = some (.own x) := by
        rcases he with z | z
        · exact absurd (hbe.trans z) hb
        · rw [hbe]; exact z
      rw [q] at q'; cases q'
      obtain ⟨v, hv⟩ := heo
      exact ⟨v, by rw [hbe]; exact hv⟩
    · refine (ok b u q).stay (fun c v hc r => k c v ?_ r) (fun c r => by rw [upd_ne (nown c b r)]; exact r) fun c xs r => by rw [upd_ne (ntup c xs r)]; exact r
      rcases hc with rfl | hc
      · exact hbe
      · rintro rfl
        rcases he with z | z
        · exact nown c b hc z
        · rw [hc] at z; cases z; exact hb rfl
end

structure Un (fs ex : List Addr) (H H' : Hp) (h h' : Heap) : Prop where
  keep : ∀ b o, h.get? b = some o → H b = none → b ∉ fs → b ∉ ex → h'.get? b = some o
  slot : ∀ b o, h.get? b = some o → H b = none → b ∈ fs → b ∉ ex → ∃ sl, h'.get? b = some { o with slots := sl }
  free : ∀ b o, h.get? b = some o → H b = none → b ∉ ex → H' b = none
  there : ∀ b o, h.get? b = some o → b ∉ ex → ∃ o', h'.get? b = some o'
  tups : ∀ b xs, H b = some (.tup xs) → H' b = some (.tup xs)
  frzs : ∀ b o u, H b = some (.frz o u) → H' b = some (.frz o u)
  tbls : ∀ b ps, H b = some (.tbl ps) → ∃ more, H' b = some (.tbl (ps ++ more))
section
variable {fs fs' ex ex' : List Addr} {H H1 H2 : Hp} {h h1 h2 h' : Heap} {a x e : Addr} {o : HO}
theorem Un.any (u : Un fs ex H H1 h h1) {b : Addr} {ob : Obj} (q : h.get? b = some ob) (n : H b = none) (hx : b ∉ ex) : ∃ sl, h1.get? b = some { ob with slots := sl } := by
  by_cases hb : b ∈ fs
  · exact u.slot b ob q n hb hx
  · exact ⟨ob.slots, u.keep b ob q n hb hx⟩
theorem Un.trans (a : Un fs ex H H1 h h1) (b : Un fs ex H1 H2 h1 h2) : Un fs ex H H2 h h2 where
  keep := fun c ob q n hc hx => b.keep c ob (a.keep c ob q n hc hx) (a.free c ob q n hx) hc hx
  slot := fun c ob q n hc hx => by
    obtain ⟨sl, e1⟩ := a.slot c ob q n hc hx
    obtain ⟨sl', e2⟩ := b.slot c _ e1 (a.free c ob q n hx) hc hx
    exact ⟨sl', e2⟩
  free := fun c ob q n hx => by
    obtain ⟨o', e1⟩ := a.there c ob q hx
    exact b.free c o' e1 (a.free c ob q n hx) hx
  there := fun c ob q hx => by
    obtain ⟨o', e1⟩ := a.there c ob q hx
    exact b.there c o' e1 hx
  tups := fun c xs q => b.tups c xs (a.tups c xs q)
  frzs := fun c ob xs q => b.frzs c ob xs (a.frzs c ob xs q)
  tbls := fun c ps q => by
    obtain ⟨m1, e1⟩ := a.tbls c ps q
    obtain ⟨m2, e2⟩ := b.tbls c _ e1
    exact ⟨m1 ++ m2, by rw [e2, Array.append_assoc]⟩
theorem Un.kept (k : ∀ b u, h.get? b = some u → h'.get? b = some u) : Un fs ex H H h h' :=
  ⟨fun b ob q _ _ _ => k b ob q, fun b ob q _ _ _ => ⟨ob.slots, k b ob q⟩, fun _ _ _ n _ => n, fun b ob q _ => ⟨ob, k b ob q⟩, fun _ _ q => q, fun _ _ _ q => q, fun _ ps q => ⟨#[], by rw [q]; simp⟩⟩
theorem Un.refl : Un fs ex H H h h := Un.kept fun _ _ q => q
theorem Un.laid (k : ∀ b u, h.get? b = some u → h'.get? b = some u) (hp : h.objs.size ≤ a) (hn : H a = none) : Un fs ex H (upd H a o) h h' where
  keep := fun b u q _ _ _ => k b u q
  slot := fun b u q _ _ _ => ⟨u.slots, k b u q⟩
  free := fun b u q n _ => by rw [upd_ne (Nat.ne_of_lt (Nat.lt_of_lt_of_le (Heap.lt_size q) hp))]; exact n
  there := fun b u q _ => ⟨u, k b u q⟩
  tups := fun b xs q => by rw [upd_ne (ne_of_none q hn)]; exact q
  frzs := fun b u xs q => by rw [upd_ne (ne_of_none q hn)]; exact q
  tbls := fun b ps q => ⟨#[], by rw [upd_ne (ne_of_none q hn), q]; simp⟩
theorem Un.write (mu : Mut (H x)) (he : e = x ∨ H e = some (.own x)) (k : ∀ b u, b ≠ e → h.get? b = some u → h'.get? b = some u) (heo : ∃ u, h'.get? e = some u) : Un fs ex H (upd H x o) h h' := by
  have hx : ∀ b, H b = none → b ≠ x := fun b n z => by subst z; rw [n] at mu; exact mu
  have hb : ∀ b, H b = none → b ≠ e := fun b n z => by
    subst z
    rcases he with r | r
    · exact hx b n r
    · rw [n] at r; cases r
  have hm : ∀ b u, H b = some u → ¬ Mut (some u) → b ≠ x := fun b u q nm z => by subst z; rw [q] at mu; exact nm mu
  refine ⟨fun b u q n _ _ => k b u (hb b n) q, fun b u q n _ _ => ⟨u.slots, k b u (hb b n) q⟩, fun b u q n _ => by rw [upd_ne (hx b n)]; exact n, fun b u q _ => ?_,
    fun b xs q => by rw [upd_ne (hm b _ q fun z => z)]; exact q, fun b u xs q => by rw [upd_ne (hm b _ q fun z => z)]; exact q, fun b ps q => ⟨#[], by rw [upd_ne (hm b _ q fun z => z), q]; simp⟩⟩
  by_cases hbe : b = e
  · subst hbe; exact heo
  · exact ⟨u, k b u hbe q⟩
theorem Un.mono (u : Un fs ex H H1 h h1) (hs : ∀ b ∈ fs, b ∈ fs') (hx : ∀ b ∈ ex, b ∈ ex') : Un fs' ex' H H1 h h1 :=
  ⟨fun b ob q n hb he => u.keep b ob q n (fun z => hb (hs b z)) fun z => he (hx b z), fun _ _ q n _ he => u.any q n fun z => he (hx _ z), fun b ob q n he => u.free b ob q n fun z => he (hx b z), fun b ob q he => u.there b ob q fun z => he (hx b z), u.tups, u.frzs, u.tbls⟩
end

def trk (h : Heap) (H : Hp) : List Addr := (List.range h.objs.size).filter fun a => (H a).isSome
def hidT (h : Heap) (H : Hp) : Heap := PySem.W.hideAll h (trk h H)
theorem hidT_size (h : Heap) (H : Hp) : (hidT h H).objs.size = h.objs.size := PySem.W.hideAll_size _ _
theorem hidT_get {h : Heap} {H : Hp} {b : Addr} {o : Obj} (e : h.get? b = some o) (n : H b = none) : (hidT h H).get? b = some o :=
  PySem.W.hideAll_get _ e fun hm => by
    have q : (H b).isSome = true := (List.mem_filter.mp hm).2
    rw [n] at q; simp at q
theorem of_hidT {h : Heap} {H : Hp} {b : Addr} {o : Obj} (e : (hidT h H).get? b = some o) : h.get? b = some o ∧ H b = none := by
  have e' : h.get? b = some o := PySem.W.of_hideAll (trk h H) e
  refine ⟨e', ?_⟩
  cases q : H b with
  | none => rfl
  | some x =>
    have hm : b ∈ trk h H := List.mem_filter.mpr ⟨List.mem_range.mpr (Heap.lt_size e'), by simp [q]⟩
    have z : (hidT h H).get? b = none := PySem.W.hideAll_none (trk h H) hm
    rw [z] at e; cases e

def allNews (g h : Heap) (L : Addr) : List (Addr × Obj) := (List.range h.objs.size).filterMap fun a => if a = L ∨ (g.get? a).isSome = true then none else (h.get? a).map fun o => (a, o)
def rest (g h : Heap) (L d : Addr) : List (Addr × Obj) := (allNews g h L).filter fun p => decide (p.1 ≠ d)
end L2

namespace L2
open PySem PySem.Spec PyProof.Rows

structure Mod (K : PySem.W.Frag) (mg : Str → Option Value) (base : Heap) : Prop where
  kin : K.In base
  glob : base.Ns mainGlobals mg
  blt : ∃ mb, base.Ns builtinsNs mb ∧ ∀ x : Str, x ≠ "__name__" → mb x = bootBuiltins x
  nolimit : base.NoLimit

structure Cx where
  prog : Program
  w : World
  K : PySem.W.Frag
  mg : Str → Option Value
  base : Heap
  A : Around
  N : List Str
  s₀ : Shared
  H₀ : Hp
  env : Env
  outer : List Env
  stack : List Env
  ex : List Addr
  fn : Str → Bool
  calm : Bool
  pn : List (Addr × Obj)
  xe : Value → Shared → Prop
def frs (l : List Env) : List Addr := l.filterMap (·.frame)
abbrev Cx.fs (X : Cx) : List Addr := frs X.outer

def Vis (sc : Scope) (x : Str) : Prop := sc.names.lookup x = some .local ∨ sc.names.lookup x = some .cell ∨ sc.names.lookup x = some .free
def Loc (sc : Scope) (x : Str) : Prop := sc.names.lookup x = some .local ∨ sc.names.lookup x = some .cell
def Look (env : Env) (h : Heap) (m : Str → Option Value) (x : Str) (u : Value) : Prop :=
  (env.kindOf x = some .local ∧ m x = some u) ∨ ((env.kindOf x = some .cell ∨ env.kindOf x = some .free) ∧ ∃ c, env.cells.lookup x = some c ∧ h.IsCell c (some u))

structure Cx.Ok (X : Cx) : Prop where
  mod : Mod X.K X.mg X.base
  kind : X.env.scope.kind = .function
  glob : X.env.globals = mainGlobals
  blt : X.env.builtins = builtinsNs
  above : X.s₀.heap.objs.size ≤ X.env.locals
  inj : ∀ x y c, X.env.cells.lookup x = some c → X.env.cells.lookup y = some c → x = y
  has : ∀ x, (X.env.kindOf x = some .cell ∨ X.env.kindOf x = some .free) → ∃ c, X.env.cells.lookup x = some c
  cab : ∀ x c, X.fn x = true → X.env.cells.lookup x = some c → X.s₀.heap.objs.size ≤ c
  hd : X.calm = true → X.A.handled = none
  frames : X.A.frames = some X.stack
  stk : X.stack = X.outer ∨ (X.stack = X.env :: X.outer ∧ X.env.frame = some X.env.locals)
  exf : ∀ b ∈ X.ex, b ≠ X.env.locals ∧ ∀ x c, X.env.cells.lookup x = some c → c ≠ b
  bs : ∀ b o, X.base.get? b = some o → X.s₀.heap.get? b = some o ∧ X.H₀ b = none
  bsz : X.base.objs.size ≤ X.s₀.heap.objs.size
  noex : ∀ b o, X.base.get? b = some o → b ∉ X.ex
  exfs : ∀ b ∈ X.ex, b ∉ X.fs
  funs : X.s₀.heap.FunFrames X.base X.outer
  frf : ∀ b ∈ X.fs, X.H₀ b = none

structure Inv (X : Cx) (pins : List (Addr × Obj)) (σ : List (Option V)) (H : Hp) (s : Shared) : Prop where
  ok : X.Ok
  os : s.os = X.s₀.os
  bare : AllBare s.gens
  base : Un X.fs X.ex X.H₀ H X.s₀.heap s.heap
  loc : ∃ m, s.heap.Ns X.env.locals m ∧ ∀ (i : Nat) (x : Str) (v : V), X.N[i]? = some x → σ[i]? = some (some v) → Vis X.env.scope x → ∃ u, RelV v u ∧ Look X.env s.heap m x u
  cell : ∀ x c, X.env.cells.lookup x = some c → ∃ v, s.heap.IsCell c v
  free : H X.env.locals = none
  freeC : ∀ x c, X.env.cells.lookup x = some c → H c = none
  pin : ∀ p ∈ X.pn ++ pins, s.heap.get? p.1 = some p.2 ∧ H p.1 = none ∧ p.1 ≠ X.env.locals ∧ p.1 ∉ X.fs ∧ ∀ v, p.2.data ≠ .cell v
  hok : HOk X.prog X.w H s.heap
  len : σ.length = X.N.length

section
variable {X : Cx} {pins : List (Addr × Obj)} {σ : List (Option V)} {H H' : Hp} {s : Shared} {h' : Heap}

theorem Cx.Ok.nofr (ok : X.Ok) {b : Addr} {o : Obj} (e : X.base.get? b = some o) : b ∉ X.fs := fun hb => by
  have := (ok.funs.mem hb).1
  rw [e] at this; cases this
theorem Inv.bs (I : Inv X pins σ H s) : ∀ b o, X.base.get? b = some o → s.heap.get? b = some o ∧ H b = none := fun b o e =>
  ⟨I.base.keep b o (I.ok.bs b o e).1 (I.ok.bs b o e).2 (I.ok.nofr e) (I.ok.noex b o e), I.base.free b o (I.ok.bs b o e).1 (I.ok.bs b o e).2 (I.ok.noex b o e)⟩
theorem Inv.bk (I : Inv X pins σ H s) : ∀ b o, X.base.get? b = some o → s.heap.get? b = some o := fun b o e => (I.bs b o e).1
theorem Inv.mod (I : Inv X pins σ H s) : Mod X.K X.mg X.base := I.ok.mod
theorem Inv.kIn (I : Inv X pins σ H s) : X.K.In s.heap := I.ok.mod.kin.keeps I.bk
theorem Inv.nolimit (I : Inv X pins σ H s) : s.heap.NoLimit := I.ok.mod.nolimit.keeps I.bk
theorem Inv.fr (I : Inv X pins σ H s) : ∃ m, Fr X.base X.env.locals s.heap m :=
  let ⟨m, hn, _⟩ := I.loc
  ⟨m, hn, I.bk, Nat.le_trans I.ok.bsz I.ok.above⟩
theorem Inv.lt (I : Inv X pins σ H s) : X.env.locals < s.heap.objs.size := let ⟨_, hn, _⟩ := I.loc; hn.lt
theorem Inv.sz (I : Inv X pins σ H s) : X.s₀.heap.objs.size ≤ s.heap.objs.size := Nat.le_trans I.ok.above (Nat.le_of_lt I.lt)
theorem Inv.nofs (I : Inv X pins σ H s) {a : Addr} (h : s.heap.objs.size ≤ a) : a ∉ X.fs := fun hb => by
  obtain ⟨_, o, ho, _⟩ := I.ok.funs.mem hb
  exact absurd (Nat.lt_of_lt_of_le (Heap.lt_size ho) (Nat.le_trans I.sz h)) (Nat.lt_irrefl _)
theorem Inv.cne (I : Inv X pins σ H s) : ∀ x c, X.env.cells.lookup x = some c → c ≠ X.env.locals := fun x c e z => by
  obtain ⟨v, o, ho, hd⟩ := I.cell x c e
  obtain ⟨m, ⟨o', es, ep, ho', hd', _⟩, _⟩ := I.loc
  rw [z, ho'] at ho; cases ho; rw [hd'] at hd; cases hd
theorem Inv.funs (I : Inv X pins σ H s) : s.heap.FunFrames X.base X.outer := by
  have all : ∀ (l : List Env), (∀ b ∈ frs l, b ∈ X.fs) → X.s₀.heap.FunFrames X.base l → s.heap.FunFrames X.base l := by
    intro l
    induction l with
    | nil => intro _ _; trivial
    | cons env r ih =>
      intro hs hl
      obtain ⟨hk, ⟨L, o, hf, hn, ho, hd⟩, hr⟩ := hl
      have hL : L ∈ X.fs := hs L (by unfold frs; rw [List.filterMap_cons, hf]; exact List.mem_cons_self)
      obtain ⟨sl, e⟩ := I.base.slot L o ho (I.ok.frf L hL) hL fun z => I.ok.exfs L z hL
      exact ⟨hk, ⟨L, _, hf, hn, e, hd⟩, ih (fun b hb => hs b (by unfold frs; rw [List.filterMap_cons, hf]; exact List.mem_cons_of_mem _ hb)) hr⟩
  exact all X.outer (fun _ hb => hb) I.ok.funs

theorem Inv.stack (I : Inv X pins σ H s) : s.heap.FunFrames X.base X.stack := by
  rcases I.ok.stk with e | ⟨e, hf⟩
  · rw [e]; exact I.funs
  · rw [e]
    obtain ⟨m, hn, _⟩ := I.loc
    refine .cons (by rw [I.ok.kind]; decide) hf hn ?_ I.funs
    exact Heap.get?_none_of_le (Nat.le_trans I.ok.bsz I.ok.above)
theorem Inv.stkSub (I : Inv X pins σ H s) : ∀ b ∈ frs X.stack, b ∈ X.env.locals :: X.fs := fun b hb => by
  rcases I.ok.stk with e | ⟨e, hf⟩
  · rw [e] at hb; exact List.mem_cons_of_mem _ hb
  · rw [e] at hb
    unfold frs at hb
    rw [List.filterMap_cons, hf] at hb
    exact hb
theorem Inv.stkFree (I : Inv X pins σ H s) : ∀ b ∈ frs X.stack, H b = none := fun b hb => by
  rcases List.mem_cons.mp (I.stkSub b hb) with e | hb
  · rw [e]; exact I.free
  · obtain ⟨_, o, ho, _⟩ := I.ok.funs.mem hb
    exact I.base.free b o ho (I.ok.frf b hb) fun z => I.ok.exfs b z hb

theorem Inv.step {g' : Array GenState} {t' : Nat} {d' : Drawn} {ch : List Addr} (I : Inv X pins σ H s)
    (hch : ∀ b ∈ ch, (b ∈ X.ex ∨ X.s₀.heap.objs.size ≤ b) ∧ b ≠ X.env.locals ∧ (∀ x c, X.env.cells.lookup x = some c → c ≠ b) ∧ ∀ p ∈ X.pn ++ pins, p.1 ≠ b)
    (keep : ∀ b o, b ≠ X.env.locals → b ∉ X.fs → b ∉ ch → s.heap.get? b = some o → H b = none → h'.get? b = some o)
    (slot : ∀ b o, b ≠ X.env.locals → b ∈ X.fs → b ∉ ch → s.heap.get? b = some o → H b = none → ∃ sl, h'.get? b = some { o with slots := sl }) (free : ∀ b o, b ∉ ch → s.heap.get? b = some o → H b = none → H' b = none)
    (there : ∀ b o, b ∉ ch → s.heap.get? b = some o → ∃ o', h'.get? b = some o')
    (tups : ∀ b xs, H b = some (.tup xs) → H' b = some (.tup xs)) (frzs : ∀ b o u, H b = some (.frz o u) → H' b = some (.frz o u)) (tbls : ∀ b ps, H b = some (.tbl ps) → ∃ more, H' b = some (.tbl (ps ++ more)))
    (ns : ∀ m, s.heap.Ns X.env.locals m → h'.Ns X.env.locals m) (hok : HOk X.prog X.w H' h') (hg : AllBare g') :
    Inv X pins σ H' { s with heap := h', gens := g', drawn := d', toks := t' } := by
  have neL : ∀ b o, X.s₀.heap.get? b = some o → b ≠ X.env.locals := fun b o e => Nat.ne_of_lt (Nat.lt_of_lt_of_le (Heap.lt_size e) I.ok.above)
  have neC : ∀ b o, X.s₀.heap.get? b = some o → b ∉ X.ex → b ∉ ch := fun b o e hx hb => by
    rcases (hch b hb).1 with z | z
    · exact hx z
    · exact absurd (Nat.lt_of_lt_of_le (Heap.lt_size e) z) (Nat.lt_irrefl _)
  have cellK : ∀ x c, X.env.cells.lookup x = some c → ∀ v, s.heap.IsCell c v → h'.IsCell c v := fun x c e v ⟨o, ho, hd⟩ => by
    have nch : c ∉ ch := fun z => (hch c z).2.2.1 x c e rfl
    by_cases hc : c ∈ X.fs
    · obtain ⟨sl, q⟩ := slot c o (I.cne x c e) hc nch ho (I.freeC x c e)
      exact ⟨_, q, hd⟩
    · exact ⟨o, keep c o (I.cne x c e) hc nch ho (I.freeC x c e), hd⟩
  refine ⟨I.ok, I.os, hg, ⟨fun b o e n hb hx => ?_, fun b o e n hb hx => ?_, fun b o e n hx => ?_, fun b o e hx => ?_, fun b xs e => tups b xs (I.base.tups b xs e), fun b o xs e => frzs b o xs (I.base.frzs b o xs e), fun b ps e => ?_⟩, ?_, fun x c e => ?_, ?_, fun x c e => ?_, fun p hp => ?_, hok, I.len⟩
  · exact keep b o (neL b o e) hb (neC b o e hx) (I.base.keep b o e n hb hx) (I.base.free b o e n hx)
  · obtain ⟨sl, e1⟩ := I.base.slot b o e n hb hx
    obtain ⟨sl', e2⟩ := slot b _ (neL b o e) hb (neC b o e hx) e1 (I.base.free b o e n hx)
    exact ⟨sl', e2⟩
  · obtain ⟨o', e1⟩ := I.base.there b o e hx
    exact free b o' (neC b o e hx) e1 (I.base.free b o e n hx)
  · obtain ⟨o', e1⟩ := I.base.there b o e hx
    exact there b o' (neC b o e hx) e1
  · obtain ⟨m1, e1⟩ := I.base.tbls b ps e
    obtain ⟨m2, e2⟩ := tbls b _ e1
    exact ⟨m1 ++ m2, by rw [e2, Array.append_assoc]⟩
  · obtain ⟨m, hn, hl⟩ := I.loc
    refine ⟨m, ns m hn, fun i x v e1 e2 e3 => ?_⟩
    obtain ⟨u, r, l⟩ := hl i x v e1 e2 e3
    refine ⟨u, r, ?_⟩
    rcases l with l | ⟨k, c, e, z⟩
    · exact .inl l
    · exact .inr ⟨k, c, e, cellK x c e _ z⟩
  · obtain ⟨v, z⟩ := I.cell x c e
    exact ⟨v, cellK x c e v z⟩
  · obtain ⟨m, ⟨o, _, _, ho, _⟩, _⟩ := I.loc
    exact free _ o (fun z => (hch _ z).2.1 rfl) ho I.free
  · obtain ⟨v, o, ho, hd⟩ := I.cell x c e
    exact free c o (fun z => (hch c z).2.2.1 x c e rfl) ho (I.freeC x c e)
  · obtain ⟨e, n, ne, nf, d⟩ := I.pin p hp
    have nch : p.1 ∉ ch := fun z => (hch p.1 z).2.2.2 p hp rfl
    exact ⟨keep p.1 p.2 ne nf nch e n, free p.1 p.2 nch e n, ne, nf, d⟩
theorem Inv.un {t' : Nat} (I : Inv X pins σ H s) (u : Un X.fs [] H H' s.heap h') (hok : HOk X.prog X.w H' h') : Inv X pins σ H' { s with heap := h', toks := t' } := by
  obtain ⟨m, ⟨o, es, ep, ho, r⟩, _⟩ := id I.loc
  obtain ⟨sl, hL⟩ := u.any ho I.free (by simp)
  exact I.step (g' := s.gens) (d' := s.drawn) (ch := []) (fun _ z => nomatch z) (fun b o _ hb _ e n => u.keep b o e n hb (by simp)) (fun b o _ hb _ e n => u.slot b o e n hb (by simp)) (fun b o _ e n => u.free b o e n (by simp)) (fun b o _ e => u.there b o e (by simp)) u.tups u.frzs u.tbls (fun m' hm => by
    obtain ⟨o', es', ep', ho', r'⟩ := hm
    rw [ho] at ho'; cases ho'
    exact ⟨_, es', ep', hL, r'⟩) hok I.bare
theorem Inv.call {g' : Array GenState} {t' : Nat} {d' : Drawn} {ch : List Addr} (I : Inv X pins σ H s) (u : Un (frs X.stack) ch H H' s.heap h') (hok : HOk X.prog X.w H' h') (hg : AllBare g')
    (hch : ∀ b ∈ ch, (b ∈ X.ex ∨ X.s₀.heap.objs.size ≤ b) ∧ b ≠ X.env.locals ∧ (∀ x c, X.env.cells.lookup x = some c → c ≠ b) ∧ ∀ p ∈ X.pn ++ pins, p.1 ≠ b) :
    Inv X pins σ H' { s with heap := h', gens := g', drawn := d', toks := t' } := by
  obtain ⟨m, ⟨o, es, ep, ho, r⟩, _⟩ := id I.loc
  obtain ⟨sl, hL⟩ := u.any ho I.free fun z => (hch _ z).2.1 rfl
  exact I.step (ch := ch) hch (fun b o hL hb hc e n => u.keep b o e n (fun z => (List.mem_cons.mp (I.stkSub b z)).elim hL hb) hc) (fun b o _ _ hc e n => u.any e n hc) (fun b o hc e n => u.free b o e n hc) (fun b o hc e => u.there b o e hc) u.tups u.frzs u.tbls (fun m' hm => by
    obtain ⟨o', es', ep', ho', r'⟩ := hm
    rw [ho] at ho'; cases ho'
    exact ⟨_, es', ep', hL, r'⟩) hok hg
theorem Inv.turned {t' : Nat} {it : Addr} (I : Inv X pins σ H s) (k : ∀ b o, b ≠ it → s.heap.get? b = some o → h'.get? b = some o) (hn : H it = none) (hL : it ≠ X.env.locals)
    (h1 : it ∈ X.ex ∨ X.s₀.heap.objs.size ≤ it) (h2 : ∀ x c, X.env.cells.lookup x = some c → c ≠ it) (h3 : ∀ p ∈ X.pn ++ pins, p.1 ≠ it) : Inv X pins σ H { s with heap := h', toks := t' } := by
  have nit : ∀ b u, H b = some u → b ≠ it := fun b u e z => by rw [z, hn] at e; cases e
  refine I.step (g' := s.gens) (d' := s.drawn) (ch := [it]) (fun b hb => ?_) (fun b o _ _ hc e _ => k b o (fun z => hc (by simp [z])) e) (fun b o _ _ hc e _ => ⟨o.slots, k b o (fun z => hc (by simp [z])) e⟩) (fun _ _ _ _ n => n)
    (fun b o hc e => ⟨o, k b o (fun z => hc (by simp [z])) e⟩) (fun _ _ e => e) (fun _ _ _ e => e) (fun b ps e => ⟨#[], by rw [e]; simp⟩) (fun m hm => ?_) (fun b u e => ?_) I.bare
  · have e : b = it := by simpa using hb
    subst e
    exact ⟨h1, hL, h2, h3⟩
  · obtain ⟨o, es, ep, ho, r⟩ := hm
    exact ⟨o, es, ep, k _ o (Ne.symm hL) ho, r⟩
  · refine (I.hok b u e).stay (fun c v hc q => k c v ?_ q) (fun _ q => q) fun _ _ q => q
    rcases hc with z | z
    · rw [z]; exact nit b u e
    · exact nit c _ z
theorem Inv.tok (I : Inv X pins σ H s) (t : Nat) : Inv X pins σ H { s with toks := t } := I.un (h' := s.heap) (t' := t) Un.refl I.hok
theorem Inv.kept {t' : Nat} (I : Inv X pins σ H s) (k : ∀ b u, s.heap.get? b = some u → h'.get? b = some u) : Inv X pins σ H { s with heap := h', toks := t' } := I.un (Un.kept k) (I.hok.kept k)
theorem Inv.laid {a : Addr} {o : HO} {t' : Nat} (I : Inv X pins σ H s) (k : ∀ b u, s.heap.get? b = some u → h'.get? b = some u) (hp : s.heap.objs.size ≤ a) (new : ObjOk X.prog X.w (upd H a o) h' a o) :
    Inv X pins σ (upd H a o) { s with heap := h', toks := t' } := I.un (Un.laid k hp (I.hok.fresh hp)) (I.hok.laid k hp new)
theorem Inv.write {x e : Addr} {o : HO} {t' : Nat} (I : Inv X pins σ H s) (mu : Mut (H x)) (he : e = x ∨ H e = some (.own x)) (k : ∀ b u, b ≠ e → s.heap.get? b = some u → h'.get? b = some u) (heo : ∃ u, h'.get? e = some u)
    (new : ObjOk X.prog X.w (upd H x o) h' x o) : Inv X pins σ (upd H x o) { s with heap := h', toks := t' } := I.un (Un.write mu he k heo) (I.hok.write mu he k heo new)
theorem Inv.weak {σ' : List (Option V)} (I : Inv X pins σ H s) (hl : σ'.length = σ.length) (w : ∀ (i : Nat) v, σ'[i]? = some (some v) → σ[i]? = some (some v)) : Inv X pins σ' H s :=
  ⟨I.ok, I.os, I.bare, I.base, let ⟨m, hn, hl'⟩ := I.loc; ⟨m, hn, fun i x v e1 e2 e3 => hl' i x v e1 (w i v e2) e3⟩, I.cell, I.free, I.freeC, I.pin, I.hok, hl.trans I.len⟩
theorem Inv.pins_of {pins' : List (Addr × Obj)} (I : Inv X pins σ H s) (h : ∀ p ∈ pins', s.heap.get? p.1 = some p.2 ∧ H p.1 = none ∧ p.1 ≠ X.env.locals ∧ p.1 ∉ X.fs ∧ ∀ v, p.2.data ≠ .cell v) : Inv X pins' σ H s :=
  ⟨I.ok, I.os, I.bare, I.base, I.loc, I.cell, I.free, I.freeC, fun p hp => (List.mem_append.mp hp).elim (fun z => I.pin p (List.mem_append_left _ z)) (h p), I.hok, I.len⟩

theorem nodup_ix {N : List Str} (hN : N.Nodup) {i j : Nat} {x : Str} (a : N[i]? = some x) (b : N[j]? = some x) : i = j := by
  obtain ⟨h1, e1⟩ := List.getElem?_eq_some_iff.mp a
  obtain ⟨h2, e2⟩ := List.getElem?_eq_some_iff.mp b
  exact (List.getElem_inj hN).mp (e1.trans e2.symm)

theorem store_ok2 {M : Model} {A : Around} {E : Value → Shared → Prop} {i : Nat} {x : Str} {v : V} {u : Value} {Q : Unit → Shared → Prop} (I : Inv X pins σ H s) (hN : X.N.Nodup) (hi : X.N[i]? = some x) (hx : Loc X.env.scope x) (r : RelV v u)
    (h : ∀ s', Inv X pins (σ.set i (some v)) H s' → (∃ a, Heap.SameBut a s.heap s'.heap ∧ (a = X.env.locals ∨ X.env.cells.lookup x = some a)) → Q () s') (hf : X.fn x = true ∨ X.env.scope.names.lookup x = some .local := by first | exact .inl rfl | exact .inr rfl | assumption) : wpAny M A (storeName X.env x u) Q E s := by
  obtain ⟨m, hn, hl⟩ := id I.loc
  have hcls : (X.env.scope.kind == .class || (X.env.scope.kind == .module && X.env.locals != X.env.globals)) = false := by rw [I.ok.kind]; rfl
  have hiσ : i < σ.length := by rw [I.len]; exact (List.getElem?_eq_some_iff.mp hi).1
  have cne := I.cne
  have tracked : ∀ {a : Addr} {h' : Heap}, (∃ o, s.heap.get? a = some o ∧ H a = none) → Heap.SameBut a s.heap h' → HOk X.prog X.w H h' := fun {a h'} ha hs b ob e => by
    obtain ⟨_, _, hfree⟩ := ha
    refine (I.hok b ob e).stay (fun c w' hc q => (hs.2 c ?_).trans q) (fun _ q => q) fun _ _ q => q
    rintro rfl
    rcases hc with rfl | hc
    · rw [hfree] at e; cases e
    · rw [hfree] at hc; cases hc
  rcases hx with hk | hk
  · refine wpAny_storeName_local hk hn (fun h' hn' hs => ?_) hcls
    obtain ⟨oL, _, _, hoL, _⟩ := id hn
    refine h _ ⟨I.ok, I.os, I.bare, ⟨fun b o e n hb hx => ?_, fun b o e n hb hx => ?_, I.base.free, fun b o e hx => ?_, I.base.tups, I.base.frzs, I.base.tbls⟩, ⟨_, hn', fun j y v' e1 e2 e3 => ?_⟩, fun y c e => ?_, I.free, I.freeC, fun p hp => ?_, tracked ⟨oL, hoL, I.free⟩ hs, by simpa using I.len⟩ ⟨_, hs, .inl rfl⟩
    · exact (hs.2 b (Nat.ne_of_lt (Nat.lt_of_lt_of_le (Heap.lt_size e) I.ok.above))).trans (I.base.keep b o e n hb hx)
    · obtain ⟨sl, e1⟩ := I.base.slot b o e n hb hx
      exact ⟨sl, (hs.2 b (Nat.ne_of_lt (Nat.lt_of_lt_of_le (Heap.lt_size e) I.ok.above))).trans e1⟩
    · obtain ⟨o', e1⟩ := I.base.there b o e hx
      exact ⟨o', (hs.2 b (Nat.ne_of_lt (Nat.lt_of_lt_of_le (Heap.lt_size e) I.ok.above))).trans e1⟩
    · by_cases hj : j = i
      · subst hj
        rw [hi] at e1; cases e1
        rw [List.getElem?_set_self hiσ] at e2
        cases e2
        exact ⟨u, r, .inl ⟨hk, by simp⟩⟩
      · rw [List.getElem?_set_ne (Ne.symm hj)] at e2
        obtain ⟨u', r', q⟩ := hl j y v' e1 e2 e3
        refine ⟨u', r', ?_⟩
        rcases q with ⟨k, e⟩ | ⟨k, c, e, z⟩
        · refine .inl ⟨k, ?_⟩
          have : y ≠ x := fun e => hj (nodup_ix hN e1 (e ▸ hi))
          simp [this, e]
        · exact .inr ⟨k, c, e, z.sameBut hs (cne y c e)⟩
    · obtain ⟨w', z⟩ := I.cell y c e
      exact ⟨w', z.sameBut hs (cne y c e)⟩
    · obtain ⟨e, n, ne, nf, d⟩ := I.pin p hp
      exact ⟨(hs.2 p.1 ne).trans e, n, ne, nf, d⟩
  · have hfn : X.fn x = true := by
      rcases hf with z | z
      · exact z
      · rw [z] at hk; cases hk
    obtain ⟨c, hc⟩ := I.ok.has x (.inl hk)
    obtain ⟨w', z⟩ := I.cell x c hc
    refine wpAny_storeName_cell I.ok.kind hk hc z (fun h' hc' hs => ?_)
    obtain ⟨oc, hoc, hocd⟩ := id z
    refine h { s with heap := h' } ⟨I.ok, I.os, I.bare, ⟨fun b o e n hb hx => ?_, fun b o e n hb hx => ?_, I.base.free, fun b o e hx => ?_, I.base.tups, I.base.frzs, I.base.tbls⟩, ⟨m, hn.sameBut hs (Ne.symm (cne x c hc)), fun j y v' e1 e2 e3 => ?_⟩, fun y c' e => ?_, I.free, I.freeC, fun p hp => ?_, tracked ⟨oc, hoc, I.freeC x c hc⟩ hs, by simpa using I.len⟩ ⟨c, hs, .inr hc⟩
    · exact (hs.2 b (Nat.ne_of_lt (Nat.lt_of_lt_of_le (Heap.lt_size e) (I.ok.cab x c hfn hc)))).trans (I.base.keep b o e n hb hx)
    · obtain ⟨sl, e1⟩ := I.base.slot b o e n hb hx
      exact ⟨sl, (hs.2 b (Nat.ne_of_lt (Nat.lt_of_lt_of_le (Heap.lt_size e) (I.ok.cab x c hfn hc)))).trans e1⟩
    · obtain ⟨o', e1⟩ := I.base.there b o e hx
      exact ⟨o', (hs.2 b (Nat.ne_of_lt (Nat.lt_of_lt_of_le (Heap.lt_size e) (I.ok.cab x c hfn hc)))).trans e1⟩
    · by_cases hj : j = i
      · subst hj
        rw [hi] at e1; cases e1
        rw [List.getElem?_set_self hiσ] at e2
        cases e2
        exact ⟨u, r, .inr ⟨.inl hk, c, hc, hc'⟩⟩
      · rw [List.getElem?_set_ne (Ne.symm hj)] at e2
        obtain ⟨u', r', q⟩ := hl j y v' e1 e2 e3
        refine ⟨u', r', ?_⟩
        rcases q with q | ⟨k, c', e, z'⟩
        · exact .inl q
        · refine .inr ⟨k, c', e, z'.sameBut hs ?_⟩
          rintro rfl
          exact hj (nodup_ix hN e1 (I.ok.inj _ _ _ e hc ▸ hi))
    · by_cases hcc : c' = c
      · subst hcc; exact ⟨_, hc'⟩
      · obtain ⟨w2, z2⟩ := I.cell y c' e
        exact ⟨w2, z2.sameBut hs hcc⟩
    · obtain ⟨e, n, ne, nf, d⟩ := I.pin p hp
      refine ⟨(hs.2 p.1 ?_).trans e, n, ne, nf, d⟩
      intro q
      rw [q, hoc] at e
      have q' : oc = p.2 := Option.some.inj e
      exact d w' (by rw [← q']; exact hocd)
theorem store_ok {M : Model} {A : Around} {E : Value → Shared → Prop} {i : Nat} {x : Str} {v : V} {u : Value} {Q : Unit → Shared → Prop} (I : Inv X pins σ H s) (hN : X.N.Nodup) (hi : X.N[i]? = some x) (hx : Loc X.env.scope x) (r : RelV v u)
    (h : ∀ s', Inv X pins (σ.set i (some v)) H s' → Q () s') (hf : X.fn x = true ∨ X.env.scope.names.lookup x = some .local := by first | exact .inl rfl | exact .inr rfl | assumption) : wpAny M A (storeName X.env x u) Q E s :=
  store_ok2 I hN hi hx r (fun s' I' _ => h s' I') hf
theorem Inv.call' {s' : Shared} {ch : List Addr} (I : Inv X pins σ H s) (ho : s'.os = s.os) (u : Un (frs X.stack) ch H H' s.heap s'.heap) (hok : HOk X.prog X.w H' s'.heap) (hg : AllBare s'.gens)
    (hch : ∀ b ∈ ch, (b ∈ X.ex ∨ X.s₀.heap.objs.size ≤ b) ∧ b ≠ X.env.locals ∧ (∀ x c, X.env.cells.lookup x = some c → c ≠ b) ∧ ∀ p ∈ X.pn ++ pins, p.1 ≠ b) : Inv X pins σ H' s' := by
  obtain ⟨h', g', d', t', o'⟩ := s'
  have e : o' = s.os := ho
  subst e
  exact I.call (g' := g') (t' := t') (d' := d') u hok hg hch
end

abbrev XK := Value → Option Addr → Hp → Prop
abbrev St := List (Option V)
abbrev VK := V → Hp → Prop
abbrev TE := St → Hp → VK → Prop
abbrev TT := St → Hp → (Bool → Hp → Prop) → Prop
abbrev TA := St → Hp → (List V → Hp → Prop) → Prop
structure Ends where
  nx : St → Hp → Prop
  rt : VK
  bk : St → Hp → Prop := fun _ _ => False
  ct : St → Hp → Prop := fun _ _ => False
abbrev TS := Ends → St → Hp → Prop

def EP (X : Cx) (pins : List (Addr × Obj)) (σ : St) (Q : VK) (u : Value) (s' : Shared) : Prop := ∃ v H', Inv X pins σ H' s' ∧ RelV v u ∧ Q v H'
def TP (X : Cx) (pins : List (Addr × Obj)) (σ : St) (Q : Bool → Hp → Prop) (b : Bool) (s' : Shared) : Prop := ∃ H', Inv X pins σ H' s' ∧ Q b H'
def AP (X : Cx) (pins : List (Addr × Obj)) (σ : St) (Q : List V → Hp → Prop) (us : List Value) (s' : Shared) : Prop := ∃ vs H', Inv X pins σ H' s' ∧ Vals vs us ∧ Q vs H'
def SP (X : Cx) (pins : List (Addr × Obj)) (D : Ends) (f : Flow) (s' : Shared) : Prop :=
  match f with
  | .next => ∃ σ' H', Inv X pins σ' H' s' ∧ D.nx σ' H'
  | .brk => ∃ σ' H', Inv X pins σ' H' s' ∧ D.bk σ' H'
  | .cont => ∃ σ' H', Inv X pins σ' H' s' ∧ D.ct σ' H'
  | .ret u => ∃ v σ' H', Inv X pins σ' H' s' ∧ RelV v u ∧ D.rt v H'

def PE (X : Cx) (e : Expr) (t : TE) : Prop :=
  ∀ (pins : List (Addr × Obj)) (s : Shared) (σ : St) (H : Hp) (Q : VK), Inv X pins σ H s → t σ H Q → wpAny (model X.prog X.w) X.A (eval e X.env) (EP X pins σ Q) X.xe s
def PT (X : Cx) (e : Expr) (t : TT) : Prop :=
  ∀ (pins : List (Addr × Obj)) (s : Shared) (σ : St) (H : Hp) (Q : Bool → Hp → Prop), Inv X pins σ H s → t σ H Q → wpAny (model X.prog X.w) X.A (isTrue e X.env (eval e X.env)) (TP X pins σ Q) X.xe s
def PW (X : Cx) (e : Expr) (t : TT) : Prop :=
  ∀ (whole : Sem Value) (pins : List (Addr × Obj)) (s : Shared) (σ : St) (H : Hp) (Q : Bool → Hp → Prop), Inv X pins σ H s → t σ H Q → wpAny (model X.prog X.w) X.A (isTrue e X.env whole) (TP X pins σ Q) X.xe s
theorem PW.pt {X : Cx} {e : Expr} {t : TT} (h : PW X e t) : PT X e t := h _
def PA (X : Cx) (es : List Expr) (t : TA) : Prop :=
  ∀ (pos : Pos) (pins : List (Addr × Obj)) (s : Shared) (σ : St) (H : Hp) (Q : List V → Hp → Prop), Inv X pins σ H s → t σ H Q → wpAny (model X.prog X.w) X.A (spliced (backTo pos (starEach es X.env))) (AP X pins σ Q) X.xe s
def PS (X : Cx) (st : Stmt) (t : TS) : Prop :=
  ∀ (pins : List (Addr × Obj)) (s : Shared) (σ : St) (H : Hp) (D : Ends), Inv X pins σ H s → t D σ H → wpAny (model X.prog X.w) X.A (exec st X.env) (SP X pins D) X.xe s
def PSs (X : Cx) (st : List Stmt) (t : TS) : Prop :=
  ∀ (pins : List (Addr × Obj)) (s : Shared) (σ : St) (H : Hp) (D : Ends), Inv X pins σ H s → t D σ H → wpAny (model X.prog X.w) X.A (execs st X.env) (SP X pins D) X.xe s
theorem thn {α : Type} {t : Sem α} {Q Q' : α → Shared → Prop} {M : Model} {A : Around} {E : Value → Shared → Prop} {s : Shared} (h : wpAny M A t Q E s) (hQ : ∀ a s, Q a s → Q' a s) : wpAny M A t Q' E s := wpAny_mono h hQ fun _ _ x => x
end L2

namespace L2
open PySem PySem.Spec PyProof.Rows
section
variable {X : Cx}

def tVar (i : Nat) : TE := fun σ H Q => ∃ v, σ[i]? = some (some v) ∧ Q v H
def tC (v : V) : TE := fun _ H Q => Q v H
theorem pe_var {i : Nat} {x : Str} {pos : Pos} (hN : X.N[i]? = some x) (hv : Vis X.env.scope x) (hd : (x == ("__debug__" : Str)) = false := by decide) (hcd : (x == ("__classdict__" : Str)) = false := by decide) : PE X (.Name x pos) (tVar i) := by
  intro pins s σ H Q I h
  obtain ⟨v, e, h⟩ := h
  obtain ⟨m, hn, hl⟩ := I.loc
  obtain ⟨u, r, l⟩ := hl i x v hN e hv
  have fin : EP X pins σ Q u s := ⟨v, H, I, r, h⟩
  rcases l with ⟨hk, hm⟩ | ⟨hk, c, hc, hcell⟩
  · exact wpAny_Name (wpAny_loadName_local I.ok.kind hk hn hm fin) hd
  · rcases hk with hk | hk
    · exact wpAny_Name (wpAny_loadName_cell I.ok.kind hk hc hcell fin) hd
    · exact wpAny_Name (wpAny_loadName_free I.ok.kind hk hc hcell fin hcd) hd
theorem pe_int {i j pos} : PE X (.Constant (.int i) j pos) (tC (.int i)) := fun _ _ _ H _ I h => wpAny_Constant_int ⟨.int i, H, I.tok _, ⟨_, rfl⟩, h⟩
theorem pe_bl {b j pos} : PE X (.Constant (.bool b) j pos) (tC (.bl b)) := fun _ _ _ H _ I h => Constant_bool ⟨.bl b, H, I, rfl, h⟩
theorem pe_non {j pos} : PE X (.Constant .none j pos) (tC .non) := fun _ _ _ H _ I h => Constant_none ⟨.non, H, I, rfl, h⟩
theorem pe_str {x j pos} : PE X (.Constant (.str x) j pos) (tC (.str x)) := fun _ _ _ H _ I h => Calls.Constant_str ⟨.str x, H, I.tok _, ⟨_, rfl⟩, h⟩

def Gl (X : Cx) (x : Str) : Prop := X.env.kindOf x = some .globalImplicit
theorem ld_glob {E : Value → Shared → Prop} {pins : List (Addr × Obj)} {s : Shared} {σ : St} {H : Hp} {x : Str} {u : Value} {pos : Pos} {Q : Value → Shared → Prop} (I : Inv X pins σ H s) (hg : Gl X x) (hm : X.mg x = some u) (h : Q u s)
    (hd : (x == ("__debug__" : Str)) = false := by decide) : wpAny (model X.prog X.w) X.A (eval (.Name x pos) X.env) Q E s :=
  Calls.Name_function_global I.ok.kind hg (Calls.loadGlobal_global (by rw [I.ok.glob]; exact I.mod.glob.keeps I.bk) hm h) hd
theorem ld_blt {E : Value → Shared → Prop} {pins : List (Addr × Obj)} {s : Shared} {σ : St} {H : Hp} {x : Str} {u : Value} {pos : Pos} {Q : Value → Shared → Prop} (I : Inv X pins σ H s) (hg : Gl X x) (hm : X.mg x = none) (hv : bootBuiltins x = some u) (h : Q u s)
    (hn : x ≠ "__name__" := by decide) (hd : (x == ("__debug__" : Str)) = false := by decide) : wpAny (model X.prog X.w) X.A (eval (.Name x pos) X.env) Q E s := by
  obtain ⟨mb, h1, h2⟩ := I.mod.blt
  exact Calls.Name_function_global I.ok.kind hg (Calls.loadGlobal_builtin (by rw [I.ok.glob]; exact I.mod.glob.keeps I.bk) hm (by rw [I.ok.blt]; exact h1.keeps I.bk) ((h2 x hn).trans hv) h) hd
theorem pe_glob {x : Str} {v : V} {u : Value} {pos : Pos} (hg : Gl X x) (hm : X.mg x = some u) (r : RelV v u) (hd : (x == ("__debug__" : Str)) = false := by decide) : PE X (.Name x pos) (tC v) :=
  fun _ _ _ H _ I h => ld_glob I hg hm ⟨v, H, I, r, h⟩ hd
theorem pe_bltn {x : Str} {v : V} {u : Value} {pos : Pos} (hg : Gl X x) (hm : X.mg x = none) (hv : bootBuiltins x = some u) (r : RelV v u) (hn : x ≠ "__name__" := by decide) (hd : (x == ("__debug__" : Str)) = false := by decide) : PE X (.Name x pos) (tC v) :=
  fun _ _ _ H _ I h => ld_blt I hg hm hv ⟨v, H, I, r, h⟩ hn hd

def t2I (ta tb : TE) (k : Int → Int → Hp → Prop) : St → Hp → Prop := fun σ H => ta σ H fun x H1 => tb σ H1 fun y H2 => ∃ i j, x = .int i ∧ y = .int j ∧ k i j H2
def tAdd (ta tb : TE) : TE := fun σ H Q => t2I ta tb (fun i j H2 => Q (.int (i + j)) H2) σ H
def tSub (ta tb : TE) : TE := fun σ H Q => t2I ta tb (fun i j H2 => Q (.int (i - j)) H2) σ H
def tMul (ta tb : TE) : TE := fun σ H Q => t2I ta tb (fun i j H2 => (-(2 ^ 64) < i ∧ i < 2 ^ 64) ∧ Q (.int (i * j)) H2) σ H
variable {a b : Expr} {ta tb : TE} {pos : Pos}
def PC (X : Cx) (op : CmpOp) (a b : Expr) (t : TE) : Prop :=
  ∀ (pins : List (Addr × Obj)) (s : Shared) (σ : St) (H : Hp) (Q : VK), Inv X pins σ H s → t σ H Q →
    wpAny (model X.prog X.w) X.A (eval a X.env) (fun v s₁ => wpAny (model X.prog X.w) X.A (eval b X.env) (fun u s₂ => wpAny (model X.prog X.w) X.A (compareOp op v u) (EP X pins σ Q) X.xe s₂) X.xe s₁) X.xe s
def tCmp (p : Int → Int → Bool) (ta tb : TE) : TE := fun σ H Q => t2I ta tb (fun i j H2 => Q (.bl (p i j)) H2) σ H
abbrev tLt : TE → TE → TE := tCmp fun i j => decide (i < j)
abbrev tLe : TE → TE → TE := tCmp fun i j => decide (i ≤ j)
abbrev tGt : TE → TE → TE := tCmp fun i j => decide (j < i)
abbrev tGe : TE → TE → TE := tCmp fun i j => decide (j ≤ i)
abbrev tEqI : TE → TE → TE := tCmp fun i j => decide (i = j)
abbrev tNeI : TE → TE → TE := tCmp fun i j => !decide (i = j)
def tIsN (ta : TE) : TE := fun σ H Q => ta σ H fun x H1 => Q (.bl (decide (x = .non))) H1
def tNotN (ta : TE) : TE := fun σ H Q => ta σ H fun x H1 => Q (.bl (!decide (x = .non))) H1
def tB (t : TE) : TT := fun σ H Q => t σ H fun x H1 => ∃ c, x = .bl c ∧ Q c H1
theorem pt_val {e : Expr} {t : TE} (h : PE X e t) (he : ∀ whole, isTrue e X.env whole = (do let v ← whole; standAt e.pos; holding [v] (truthy v)) := by intro _; rfl) : PT X e (tB t) := by
  intro pins s σ H Q I hw
  refine isTrue_plain (thn (h pins s σ H _ I hw) fun v s1 ⟨x, H1, I1, r1, q1⟩ => ?_) (he _)
  obtain ⟨d, rfl, q⟩ := q1
  cases r1
  exact wpAny_truthy_bool ⟨H1, I1, q⟩

variable {tA tB' : TT} {rest : List Expr}
def tAnd (t u : TT) : TT := fun σ H Q => t σ H fun c H1 => if c = true then u σ H1 Q else Q false H1
def tOr (t u : TT) : TT := fun σ H Q => t σ H fun c H1 => if c = true then Q true H1 else u σ H1 Q
def tNot (t : TT) : TT := fun σ H Q => t σ H fun c H1 => Q (!c) H1
theorem pw_and1 (ha : PT X a tA) : PW X (.BoolOp .And [a] pos) tA := by
  intro wh pins s σ H Q I h
  refine isTrue_and (thn (ha pins s σ H Q I h) fun c s1 e => ?_)
  cases c with
  | true => exact isTrue_and_nil e
  | false => exact e
theorem pw_or1 (ha : PT X a tA) : PW X (.BoolOp .Or [a] pos) tA := by
  intro wh pins s σ H Q I h
  refine isTrue_or (thn (ha pins s σ H Q I h) fun c s1 e => ?_)
  cases c with
  | false => exact isTrue_or_nil e
  | true => exact e
theorem pw_and (ha : PT X a tA) (hb : PW X (.BoolOp .And (b :: rest) pos) tB') : PW X (.BoolOp .And (a :: b :: rest) pos) (tAnd tA tB') := by
  intro wh pins s σ H Q I h
  refine isTrue_and (thn (ha pins s σ H _ I h) fun c s1 ⟨H1, I1, q1⟩ => ?_)
  cases c with
  | true => exact hb wh pins s1 σ H1 Q I1 q1
  | false => exact ⟨H1, I1, q1⟩
theorem pw_or (ha : PT X a tA) (hb : PW X (.BoolOp .Or (b :: rest) pos) tB') : PW X (.BoolOp .Or (a :: b :: rest) pos) (tOr tA tB') := by
  intro wh pins s σ H Q I h
  refine isTrue_or (thn (ha pins s σ H _ I h) fun c s1 ⟨H1, I1, q1⟩ => ?_)
  cases c with
  | true => exact ⟨H1, I1, q1⟩
  | false => exact hb wh pins s1 σ H1 Q I1 q1
theorem pt_not (ha : PT X a tA) : PT X (.UnaryOp .Not a pos) (tNot tA) := by
  intro pins s σ H Q I h
  exact isTrue_not (ha pins s σ H (fun c H1 => Q (!c) H1) I h)
def tAndV (ta tb : TE) : TE := fun σ H Q => ta σ H fun x H1 => ∃ c, x = .bl c ∧ if c = true then tb σ H1 Q else Q (.bl false) H1
def tOrV (ta tb : TE) : TE := fun σ H Q => ta σ H fun x H1 => ∃ c, x = .bl c ∧ if c = true then Q (.bl true) H1 else tb σ H1 Q
def tNotV (ta : TE) : TE := fun σ H Q => ta σ H fun x H1 => ∃ c, x = .bl c ∧ Q (.bl (!c)) H1
theorem pe_one {op} {t : TE} (h : PE X a t) : PE X (.BoolOp op [a] pos) t := fun pins s σ H Q I hw => BoolOp_one (h pins s σ H Q I hw)
theorem pe_and (ha : PE X a ta) (hb : PE X (.BoolOp .And (b :: rest) pos) tb) : PE X (.BoolOp .And (a :: b :: rest) pos) (tAndV ta tb) := by
  intro pins s σ H Q I h
  refine BoolOp_and (thn (ha pins s σ H _ I h) fun v s1 ⟨x, H1, I1, r1, q1⟩ => ?_)
  obtain ⟨c, rfl, q1⟩ := q1
  cases r1
  refine wpAny_truthy_bool ?_
  cases c with
  | true => exact hb pins s1 σ H1 Q I1 q1
  | false => exact ⟨.bl false, H1, I1, rfl, q1⟩
def tIf (t : TT) (ta tb : TE) : TE := fun σ H Q => t σ H fun c H1 => if c = true then ta σ H1 Q else tb σ H1 Q
end
end L2

namespace L2
open PySem PySem.Spec PyProof.Rows

def SqL (K : PySem.W.Frag) (H : Hp) (a : Addr) (xs : List V) : Prop :=
  Rd H a (.lst xs) ∨
    ∃ (o : Obj) (its : Array Value) (n : Nat), K.lookup a = some o ∧ o.cls = .type "list" ∧ o.dict = none ∧ o.data = .seq its n ∧ its.size ≤ sizeLine ∧ Vals xs its.toList
def SqT (K : PySem.W.Frag) (H : Hp) (a : Addr) (xs : List V) : Prop :=
  Rd H a (.tup xs) ∨
    ∃ (o : Obj) (its : Array Value) (n : Nat), K.lookup a = some o ∧ o.cls = .type "tuple" ∧ o.data = .seq its n ∧ its.size ≤ sizeLine ∧ Vals xs its.toList
def absV : Value → Option V
  | .none => some .non
  | .bool b => some (.bl b)
  | .int i _ => some (.int i)
  | .str x _ => some (.str x)
  | .bytes b _ => some (.byt b)
  | .float b _ => some (.flt b)
  | .ref a => some (.ref a)
  | .type n => some (.ty n)
  | _ => none
theorem RelV.abs {x : V} {u : Value} (r : RelV x u) : absV u = some x := by
  cases x with
  | non => cases r; rfl
  | bl _ => cases r; rfl
  | int _ => obtain ⟨t, rfl⟩ := r; rfl
  | str _ => obtain ⟨t, rfl⟩ := r; rfl
  | byt _ => obtain ⟨t, rfl⟩ := r; rfl
  | flt _ => obtain ⟨t, rfl⟩ := r; rfl
  | ref _ => cases r; rfl
  | ty _ => cases r; rfl
theorem RelV.inj {x y : V} {u : Value} (r : RelV x u) (q : RelV y u) : x = y := Option.some.inj (r.abs.symm.trans q.abs)
theorem Vals.inj : ∀ {xs ys : List V} {us : List Value}, Vals xs us → Vals ys us → xs = ys
  | _, _, _, .nil, .nil => rfl
  | _, _, _, .cons r t, .cons r' t' => by rw [r.inj r', Vals.inj t t']
section
variable {X : Cx} {pins : List (Addr × Obj)} {σ : St} {H : Hp} {s : Shared} {a : Addr} {xs ys : List V}
theorem SqL.of {K : PySem.W.Frag} (h : H a = some (.lst xs)) : SqL K H a xs := .inl (.inl h)
theorem SqT.of {K : PySem.W.Frag} (h : H a = some (.tup xs)) : SqT K H a xs := .inl (.inl h)
theorem Inv.list (I : Inv X pins σ H s) (h : SqL X.K H a xs) : ∃ its : List Value, Vals xs its ∧ PlainL s.heap a its.toArray ∧ xs.length ≤ sizeLine := by
  rcases h with h | ⟨o, its, n, hk, hc, hd, hs, hz, r⟩
  · obtain ⟨z, its, n, r, e⟩ := h.ok I.hok
    exact ⟨its, r, ⟨_, n, e, rfl, rfl, rfl⟩, z⟩
  · refine ⟨its.toList, r, ⟨o, n, I.kIn a o hk, hc, hd, by simpa using hs⟩, ?_⟩
    have e := r.length
    simp only [Array.length_toList] at e
    omega
theorem Inv.tuple (I : Inv X pins σ H s) (h : SqT X.K H a xs) : ∃ its : List Value, Vals xs its ∧ IsTup s.heap a its.toArray ∧ xs.length ≤ sizeLine := by
  rcases h with h | ⟨o, its, n, hk, hc, hs, hz, r⟩
  · obtain ⟨z, its, r, p⟩ := h.ok I.hok
    exact ⟨its, r, p, z⟩
  · refine ⟨its.toList, r, ⟨o, I.kIn a o hk, hc, n, by simpa using hs⟩, ?_⟩
    have e := r.length
    simp only [Array.length_toList] at e
    omega
theorem Inv.list_inj (I : Inv X pins σ H s) (h : SqL X.K H a xs) (h' : SqL X.K H a ys) : xs = ys := by
  obtain ⟨its, r, ⟨o, n, e, _, _, d⟩, _⟩ := I.list h
  obtain ⟨its', r', ⟨o', n', e', _, _, d'⟩, _⟩ := I.list h'
  rw [e] at e'; cases e'
  rw [d] at d'
  injection d' with d1 _
  have : its = its' := by simpa using congrArg Array.toList d1
  subst this
  exact r.inj r'
end

abbrev Cx.wish (X : Cx) (E : Value → Shared → Prop) : Cx := { X with xe := E }
abbrev Cx.nox (X : Cx) : Cx := X.wish fun _ _ => False
theorem Cx.Ok.wish {X : Cx} (ok : X.Ok) (E : Value → Shared → Prop) : (X.wish E).Ok :=
  ⟨ok.mod, ok.kind, ok.glob, ok.blt, ok.above, ok.inj, ok.has, ok.cab, ok.hd, ok.frames, ok.stk, ok.exf, ok.bs, ok.bsz, ok.noex, ok.exfs, ok.funs, ok.frf⟩
theorem Cx.Ok.unwish {X : Cx} {E : Value → Shared → Prop} (ok : (X.wish E).Ok) : X.Ok :=
  ⟨ok.mod, ok.kind, ok.glob, ok.blt, ok.above, ok.inj, ok.has, ok.cab, ok.hd, ok.frames, ok.stk, ok.exf, ok.bs, ok.bsz, ok.noex, ok.exfs, ok.funs, ok.frf⟩
section
variable {X : Cx} {pins : List (Addr × Obj)} {σ : St} {H : Hp} {s : Shared} {E : Value → Shared → Prop}
theorem Inv.wish (I : Inv X pins σ H s) (E : Value → Shared → Prop) : Inv (X.wish E) pins σ H s := ⟨I.ok.wish E, I.os, I.bare, I.base, I.loc, I.cell, I.free, I.freeC, I.pin, I.hok, I.len⟩
theorem Inv.unwish (I : Inv (X.wish E) pins σ H s) : Inv X pins σ H s := ⟨I.ok.unwish, I.os, I.bare, I.base, I.loc, I.cell, I.free, I.freeC, I.pin, I.hok, I.len⟩
theorem SP.unwish {D : Ends} {f : Flow} {s' : Shared} (h : SP (X.wish E) pins D f s') : SP X pins D f s' := by
  cases f with
  | next => obtain ⟨σ', H', I, q⟩ := h; exact ⟨σ', H', I.unwish, q⟩
  | brk => obtain ⟨σ', H', I, q⟩ := h; exact ⟨σ', H', I.unwish, q⟩
  | cont => obtain ⟨σ', H', I, q⟩ := h; exact ⟨σ', H', I.unwish, q⟩
  | ret u => obtain ⟨v, σ', H', I, r, q⟩ := h; exact ⟨v, σ', H', I.unwish, r, q⟩
theorem PE.nox {e : Expr} {t : TE} (h : PE X.nox e t) : PE X e t := fun pins s σ H Q I hw =>
  wpAny_mono (h pins s σ H Q (I.wish _) hw) (fun _ _ ⟨v, H', I', r, q⟩ => ⟨v, H', I'.unwish, r, q⟩) fun _ _ z => False.elim z
theorem PT.nox {e : Expr} {t : TT} (h : PT X.nox e t) : PT X e t := fun pins s σ H Q I hw =>
  wpAny_mono (h pins s σ H Q (I.wish _) hw) (fun _ _ ⟨H', I', q⟩ => ⟨H', I'.unwish, q⟩) fun _ _ z => False.elim z
theorem PSs.nox {st : List Stmt} {t : TS} (h : PSs X.nox st t) : PSs X st t := fun pins s σ H D I hw =>
  wpAny_mono (h pins s σ H D (I.wish _) hw) (fun _ _ q => q.unwish) fun _ _ z => False.elim z
end

section
variable {X : Cx} {st : Stmt} {rest : List Stmt} {t u : TS} {e : Expr} {te : TE} {pos : Pos}
def tNext : TS := fun D σ H => D.nx σ H
def tSeq (t u : TS) : TS := fun D σ H => t { D with nx := u D } σ H
theorem pss_nil : PSs X [] tNext := fun _ _ σ H _ I h => wpAny_execs_nil ⟨σ, H, I, h⟩
theorem pss_cons (h1 : PS X st t) (h2 : PSs X rest u) : PSs X (st :: rest) (tSeq t u) := by
  intro pins s σ H D I h
  refine wpAny_execs_cons (thn (h1 pins s σ H { D with nx := u D } I h) fun f s1 q => ?_)
  cases f with
  | next =>
    obtain ⟨σ', H', I', q⟩ := q
    exact h2 pins s1 σ' H' D I' q
  | ret v => exact q
  | brk => exact q
  | cont => exact q
theorem pss_one (h1 : PS X st t) : PSs X [st] t := by
  intro pins s σ H D I h
  refine wpAny_execs_cons (thn (h1 pins s σ H D I h) fun f s1 q => ?_)
  cases f with
  | next => exact wpAny_execs_nil q
  | ret v => exact q
  | brk => exact q
  | cont => exact q
def tBreak : TS := fun D σ H => D.bk σ H
def tCont : TS := fun D σ H => D.ct σ H
theorem Inv.quiet {pins : List (Addr × Obj)} {σ : St} {H : Hp} {s : Shared} (I : Inv X pins σ H s) : interactive X.env = false := by simp [interactive, I.ok.kind]
def tDrop (te : TE) : TS := fun D σ H => te σ H fun _ H1 => D.nx σ H1
theorem ps_expr (he : PE X e te) (hs : swapsWith e none pos.line X.env = pure false := by rfl) : PS X (.Expr e pos) (tDrop te) := by
  intro pins s σ H D I h
  exact wpAny_Expr_any (thn (he pins s σ H _ I h) fun v s1 ⟨x, H1, I1, r1, q1⟩ => ⟨σ, H1, I1, q1⟩) I.quiet hs
def tRet (te : TE) : TS := fun D σ H => te σ H D.rt
theorem ps_ret (he : PE X e te) : PS X (.Return (some e) pos) (tRet te) := by
  intro pins s σ H D I h
  exact wpAny_Return_some (thn (he pins s σ H _ I h) fun v s1 ⟨x, H1, I1, r1, q1⟩ => ⟨x, σ, H1, I1, r1, q1⟩)
def tRetN : TS := fun D _ H => D.rt .non H
def tIfS (c : TT) (t u : TS) : TS := fun D σ H => c σ H fun b H1 => if b = true then t D σ H1 else u D σ H1
theorem ps_if {c : Expr} {a b : List Stmt} {tc : TT} (hc : PT X c tc) (ha : PSs X a t) (hb : PSs X b u) : PS X (.If c a b pos) (tIfS tc t u) := by
  intro pins s σ H D I h
  refine wpAny_If (thn (hc pins s σ H _ I h) fun d s1 ⟨H1, I1, q1⟩ => ?_)
  cases d with
  | true => exact ha pins s1 σ H1 D I1 q1
  | false => exact hb pins s1 σ H1 D I1 q1
def tNever : TS := fun _ _ _ => False
theorem ps_never : PS X st tNever := fun _ _ _ _ _ _ h => h.elim
end

abbrev TG := V → St → Hp → (St → Hp → Prop) → Prop
abbrev TGs := List V → St → Hp → (St → Hp → Prop) → Prop
def PG (X : Cx) (target : Expr) (t : TG) : Prop :=
  ∀ (pins : List (Addr × Obj)) (s : Shared) (σ : St) (H : Hp) (v : V) (u : Value) (Q : St → Hp → Prop), Inv X pins σ H s → RelV v u → t v σ H Q →
    wpAny (model X.prog X.w) X.A (assign target X.env u) (fun _ s' => ∃ σ' H', Inv X pins σ' H' s' ∧ Q σ' H') X.xe s
def PGs (X : Cx) (ts : List Expr) (t : TGs) : Prop :=
  ∀ (pins : List (Addr × Obj)) (s : Shared) (σ : St) (H : Hp) (vs : List V) (us : List Value) (Q : St → Hp → Prop), Inv X pins σ H s → Vals vs us → t vs σ H Q →
    wpAny (model X.prog X.w) X.A (assignInOrder ((assignEach ts X.env).map (·.2)) us) (fun _ s' => ∃ σ' H', Inv X pins σ' H' s' ∧ Q σ' H') X.xe s
abbrev TSet := V → V → V → Hp → (Hp → Prop) → Prop
def PSet (X : Cx) (t : TSet) : Prop :=
  ∀ (pins : List (Addr × Obj)) (s : Shared) (σ : St) (H : Hp) (o i v : V) (ov iv u : Value) (Q : Hp → Prop), Inv X pins σ H s → RelV o ov → RelV i iv → RelV v u → t o i v H Q →
    wpAny (model X.prog X.w) X.A (setItem ov iv u) (fun _ s' => ∃ H', Inv X pins σ H' s' ∧ Q H') X.xe s
abbrev TIp := V → V → Hp → VK → Prop
def PIp (X : Cx) (op : Operator) (t : TIp) : Prop :=
  ∀ (pins : List (Addr × Obj)) (s : Shared) (σ : St) (H : Hp) (x y : V) (v u : Value) (Q : VK), Inv X pins σ H s → RelV x v → RelV y u → t x y H Q →
    wpAny (model X.prog X.w) X.A (inplaceOp op v u) (EP X pins σ Q) X.xe s
section
variable {X : Cx} {pos : Pos}
def gName (i : Nat) : TG := fun v σ H Q => Q (σ.set i (some v)) H
theorem pg_name {i : Nat} {x : Str} (hN : X.N.Nodup) (hi : X.N[i]? = some x) (hx : Loc X.env.scope x) (hf : X.fn x = true ∨ X.env.scope.names.lookup x = some .local := by first | exact .inl rfl | exact .inr rfl | assumption) : PG X (.Name x pos) (gName i) := by
  intro pins s σ H v u Q I r h
  exact wpAny_assign_Name (store_ok I hN hi hx r (fun s' I' => ⟨_, H, I', h⟩) hf)
def gNil : TGs := fun vs σ H Q => vs = [] ∧ Q σ H
def gCons (t : TG) (u : TGs) : TGs := fun vs σ H Q => ∃ v r, vs = v :: r ∧ t v σ H fun σ' H' => u r σ' H' Q
def gTup (K : PySem.W.Frag) (n : Nat) (t : TGs) : TG := fun v σ H Q => ∃ a xs, v = .ref a ∧ SqT K H a xs ∧ xs.length = n ∧ t xs σ H Q
def gSub (to ti : TE) (t : TSet) : TG := fun v σ H Q => to σ H fun o H1 => ti σ H1 fun i H2 => t o i v H2 fun H3 => Q σ H3
theorem pg_sub {o i : Expr} {to ti : TE} {t : TSet} (ho : PE X o to) (hi : PE X i ti) (hs : PSet X t)
    (ha : ∀ v, assign (.Subscript o i pos) X.env v = (do
      let ov ← holding [v] (eval o X.env)
      let iv ← holding [v, ov] (eval i X.env)
      standAt pos
      holding [v, ov, iv] (setItem ov iv v)
      release [v, ov, iv] []) := by intro _; rfl) : PG X (.Subscript o i pos) (gSub to ti t) := by
  intro pins s σ H v u Q I r h
  rw [ha]
  refine wpAny_bind (wpAny_holding (thn (ho pins s σ H _ I h) fun ov s1 ⟨x, H1, I1, r1, q1⟩ => ?_))
  refine wpAny_bind (wpAny_holding (thn (hi pins s1 σ H1 _ I1 q1) fun iv s2 ⟨y, H2, I2, r2, q2⟩ => ?_))
  refine wpAny_bind (wpAny_standAt (wpAny_bind (wpAny_holding (thn (hs pins s2 σ H2 x y v ov iv u _ I2 r1 r2 r q2) fun _ s3 ⟨H3, I3, q3⟩ => ?_))))
  exact wpAny_release ⟨σ, H3, I3, q3⟩
def tAsg (te : TE) (g : TG) : TS := fun D σ H => te σ H fun x H1 => g x σ H1 D.nx
theorem ps_asg {tg e : Expr} {te : TE} {g : TG} (he : PE X e te) (hg : PG X tg g) (hs : swapsWithSole [tg] e pos.line X.env = pure false := by rfl) (hw : swappedStores [tg] e X.env = pure none := by rfl)
    (h1 : (assignEach [tg] X.env).map (·.2) = [assign tg X.env] := by rfl) : PS X (.Assign [tg] e pos) (tAsg te g) := by
  intro pins s σ H D I h
  refine wpAny_Assign_stores (thn (he pins s σ H _ I h) fun v s1 ⟨x, H1, I1, r1, q1⟩ => ?_) hs hw
  rw [h1]
  exact thn (hg pins s1 σ H1 x v _ I1 r1 q1) fun _ s2 q => q
theorem ps_set {i : Nat} {x : Str} {e : Expr} {te : TE} {pos' : Pos} (hN : X.N.Nodup) (hi : X.N[i]? = some x) (hx : Loc X.env.scope x) (he : PE X e te) (hs : swapsWith e (some (.Name x pos')) pos.line X.env = pure false := by rfl) (hf : X.fn x = true ∨ X.env.scope.names.lookup x = some .local := by first | exact .inl rfl | exact .inr rfl | assumption) :
    PS X (.Assign [.Name x pos'] e pos) (tAsg te (gName i)) := by
  intro pins s σ H D I h
  refine wpAny_Assign_Name (thn (he pins s σ H _ I h) fun v s1 ⟨y, H1, I1, r1, q1⟩ => ?_) hs
  exact store_ok I1 hN hi hx r1 (fun s2 I2 => ⟨_, H1, I2, q1⟩) hf
def tPar (i j : Nat) (ta : TA) : TS := fun D σ H => ta σ H fun vs H1 => ∃ v w, vs = [v, w] ∧ D.nx ((σ.set i (some v)).set j (some w)) H1
def tAug (i : Nat) (te : TE) (ti : TIp) : TS := fun D σ H => ∃ x, σ[i]? = some (some x) ∧ te σ H fun y H1 => ti x y H1 fun z H2 => D.nx (σ.set i (some z)) H2
def tAugS (to ti te : TE) (tget : V → V → Hp → VK → Prop) (tip : TIp) (tset : TSet) : TS := fun D σ H => to σ H fun o H1 => ti σ H1 fun i H2 => tget o i H2 fun x H3 => te σ H3 fun y H4 => tip x y H4 fun z H5 => tset o i z H5 fun H6 => D.nx σ H6
def PGet (X : Cx) (t : V → V → Hp → VK → Prop) : Prop :=
  ∀ (pins : List (Addr × Obj)) (s : Shared) (σ : St) (H : Hp) (o i : V) (ov iv : Value) (Q : VK), Inv X pins σ H s → RelV o ov → RelV i iv → t o i H Q →
    wpAny (model X.prog X.w) X.A (getItem ov iv) (EP X pins σ Q) X.xe s
def ipI (f : Int → Int → Int) : TIp := fun x y H Q => ∃ i j, x = .int i ∧ y = .int j ∧ Q (.int (f i j)) H
end

section
variable {X : Cx} {pos : Pos}
def tWhile (c : TT) (tb : TS) : TS := fun D σ H => ∃ W : Nat → St → Hp → Prop, (∃ m, W m σ H) ∧ ∀ m σ H, W m σ H →
  c σ H fun b H1 => if b = true then ∃ N : St → Hp → Prop, (∀ σ' H', N σ' H' → ∃ m', m' < m ∧ W m' σ' H') ∧ tb { D with nx := N, ct := N, bk := D.nx } σ H1 else D.nx σ H1
end

structure It where
  go : Nat → Hp → Prop
  yld : Nat → Hp → V → Hp → Prop
  stop : Nat → Hp → Prop
def FpOk (X : Cx) (pins : List (Addr × Obj)) (H : Hp) (b : Addr) : Prop :=
  H b = none ∧ b ≠ X.env.locals ∧ b ∉ X.fs ∧ (b ∈ X.ex ∨ X.s₀.heap.objs.size ≤ b) ∧ (∀ x c, X.env.cells.lookup x = some c → c ≠ b) ∧ ∀ p ∈ X.pn ++ pins, p.1 ≠ b
theorem Inv.fpOk {X : Cx} {pins : List (Addr × Obj)} {σ : St} {H H' : Hp} {s : Shared} {b : Addr} (I : Inv X pins σ H s) (hb : s.heap.objs.size ≤ b) (hn : H' b = none) : FpOk X pins H' b := by
  refine ⟨hn, Nat.ne_of_gt (Nat.lt_of_lt_of_le I.lt hb), I.nofs hb, .inr (Nat.le_trans I.sz hb), fun x c e z => ?_, fun p hp z => ?_⟩
  · obtain ⟨v, q⟩ := I.cell x c e
    exact absurd (Nat.lt_of_lt_of_le q.lt (by rw [z]; exact hb)) (Nat.lt_irrefl _)
  · exact absurd (Nat.lt_of_lt_of_le (Heap.lt_size (I.pin p hp).1) (by rw [z]; exact hb)) (Nat.lt_irrefl _)
structure Turn (P : Program) (w : World) (K : PySem.W.Frag) (tg : Expr) (J : It) (fp : List Addr) (it : Addr) (tn : Nat → Heap → Prop) : Prop where
  mem : it ∈ fp
  obj : ∀ i h, tn i h → ∀ b ∈ fp, ∃ o, h.get? b = some o ∧ ∀ v, o.data ≠ .cell v
  keep : ∀ i h h', tn i h → (∀ b ∈ fp, ∀ o, h.get? b = some o → h'.get? b = some o) → tn i h'
  item : ∀ (X : Cx), X.prog = P → X.w = w → X.K = K → X.calm = true → ∀ (i : Nat) (pins : List (Addr × Obj)) (s : Shared) (σ : St) (H : Hp) (E : Value → Shared → Prop), Inv X pins σ H s → (∀ b ∈ fp, FpOk X pins H b) → tn i s.heap → J.go i H →
    wpAny (model P w) X.A (pyNext (.ref it)) (fun r s1 => ∃ u, r = some u ∧
      wpAny (model P w) X.A (letOwnedTupleGo tg (.ref it) u) (fun _ s2 => ∃ x H', Inv X pins σ H' s2 ∧ RelV x u ∧ J.yld i H x H' ∧ tn (i + 1) s2.heap ∧ ∀ b ∈ fp, H' b = none) E s1) E s
  done : ∀ (X : Cx), X.prog = P → X.w = w → X.K = K → X.calm = true → ∀ (i : Nat) (pins : List (Addr × Obj)) (s : Shared) (σ : St) (H : Hp) (E : Value → Shared → Prop), Inv X pins σ H s → (∀ b ∈ fp, FpOk X pins H b) → tn i s.heap → J.stop i H →
    wpAny (model P w) X.A (pyNext (.ref it)) (fun r s1 => r = none ∧ Inv X pins σ H s1) E s
  self : ∀ (A : Around) (i : Nat) (s : Shared) (Q : Value → Shared → Prop) (E : Value → Shared → Prop), tn i s.heap → Q (.ref it) s → wpAny (model P w) A (pyIter (.ref it)) Q E s
abbrev TI := St → Hp → (It → Hp → Prop) → Prop
def PIE (X : Cx) (pins : List (Addr × Obj)) (σ : St) (tg : Expr) (R : It → Hp → Prop) (itv : Value) (s2 : Shared) : Prop :=
  ∃ (it : Addr) (fp : List Addr) (tn : Nat → Heap → Prop) (J : It) (H' : Hp), itv = .ref it ∧ Inv X pins σ H' s2 ∧ Turn X.prog X.w X.K tg J fp it tn ∧ tn 0 s2.heap ∧ (∀ b ∈ fp, FpOk X pins H' b) ∧ R J H'
def PI (X : Cx) (tg iter : Expr) (wi : TI) : Prop :=
  ∀ (pins : List (Addr × Obj)) (s : Shared) (σ : St) (H : Hp) (R : It → Hp → Prop), Inv X pins σ H s → wi σ H R →
    wpAny (model X.prog X.w) X.A (eval iter X.env) (fun v s1 => wpAny (model X.prog X.w) X.A (pyIter v) (PIE X pins σ tg R) X.xe s1) X.xe s

theorem go_of {M : Model} {A : Around} {E : Value → Shared → Prop} {s : Shared} {tg : Expr} {it : Addr} {u : Value} {o : Obj} {n : String} {vs : Array Value} {Q : Unit → Shared → Prop} (ho : s.heap.get? it = some o) (hc : o.cls = .type n) (hd : o.data = .fields vs)
    (hn : ["enumerate", "zip", "dict_itemiterator", "dict_reverseitemiterator", "odict_iterator", "itertools.zip_longest", "itertools.pairwise"].contains n = false) (hQ : Q () s) : wpAny M A (letOwnedTupleGo tg (.ref it) u) Q E s := by
  unfold letOwnedTupleGo
  cases tg <;> first
    | exact wpAny_pure hQ
    | (cases u <;> first
        | exact wpAny_pure hQ
        | (refine wpAny_bind (wpAny_load ho ?_)
           rw [hc, hd]
           show wpAny M A (if (["enumerate", "zip", "dict_itemiterator", "dict_reverseitemiterator", "odict_iterator", "itertools.zip_longest", "itertools.pairwise"].contains n && vs[0]? == some (rawInt _)) = true then _ else _) Q E s
           rw [if_neg (by intro h; rw [hn, Bool.false_and] at h; cases h)]
           exact wpAny_pure hQ))

def Itl (K : PySem.W.Frag) (a : Addr) : It :=
  ⟨fun i H => ∃ xs x, SqL K H a xs ∧ xs[i]? = some x, fun i H x H' => H' = H ∧ ∀ xs, SqL K H a xs → xs[i]? = some x, fun i H => ∃ xs, SqL K H a xs ∧ xs.length ≤ i⟩
def Itt (K : PySem.W.Frag) (a : Addr) : It :=
  ⟨fun i H => ∃ xs x, SqT K H a xs ∧ xs[i]? = some x, fun i H x H' => H' = H ∧ ∀ xs, SqT K H a xs → xs[i]? = some x, fun i H => ∃ xs, SqT K H a xs ∧ xs.length ≤ i⟩
def Itr (lo : Int) (n : Nat) : It := ⟨fun i _ => i < n, fun i H x H' => H' = H ∧ x = .int (lo + i), fun i _ => n ≤ i⟩
theorem turn_list {P : Program} {w : World} {K : PySem.W.Frag} {tg : Expr} (a it : Addr) : Turn P w K tg (Itl K a) [it] it (fun i h => h.IsListIter it a i) where
  mem := by simp
  obj := fun i h st b hb => by
    have e : b = it := by simpa using hb
    subst e
    obtain ⟨o, e, c, d⟩ := st
    exact ⟨o, e, fun v z => by rw [d] at z; cases z⟩
  keep := fun i h h' st k => st.at fun o e => k it (by simp) o e
  item := by
    intro X hP hw hK hc i pins s σ H E I hf st hg
    subst hP hw hK
    obtain ⟨xs, x, hq, hx⟩ := hg
    obtain ⟨its, rv, p, hz⟩ := I.list hq
    obtain ⟨u, hu, ru⟩ := rv.get hx
    obtain ⟨f0, f1, f2, f3, f4, f5⟩ := hf it (by simp)
    refine wpAny_pyNext_list_item st p.isList (x := u) (by simpa using hu) fun h' st' sb => ?_
    have I1 : Inv X pins σ H { s with heap := h' } := I.turned (t' := s.toks) (fun b o hb e => (sb.2 b hb).trans e) f0 f1 f3 f4 f5
    obtain ⟨o, e, c, d⟩ := id st'
    exact ⟨u, rfl, go_of (s := { s with heap := h' }) e c d (by decide) ⟨x, H, I1, ru, ⟨rfl, fun ys hy => by rw [I.list_inj hy hq]; exact hx⟩, st', fun b hb => (hf b hb).1⟩⟩
  done := by
    intro X hP hw hK hc i pins s σ H E I hf st hg
    subst hP hw hK
    obtain ⟨xs, hq, hx⟩ := hg
    obtain ⟨its, rv, p, hz⟩ := I.list hq
    obtain ⟨f0, f1, f2, f3, f4, f5⟩ := hf it (by simp)
    have hl := rv.length
    exact wpAny_pyNext_list_end (I.ok.hd hc) st p.isList (by simp; omega) fun h' eb => ⟨rfl, I.turned (t' := s.toks) (fun b o hb e => eb b o hb e) f0 f1 f3 f4 f5⟩
  self := fun _ _ _ _ _ st h => wpAny_pyIter_listiter st h
theorem turn_range {P : Program} {w : World} {K : PySem.W.Frag} {tg : Expr} (it : Addr) (lo : Int) (n : Nat) : Turn P w K tg (Itr lo n) [it] it (fun i h => IsRangeIter h it (lo + (i : Nat) * 1) ((n : Int) - (i : Nat)) 1) where
  mem := by simp
  obj := fun i h st b hb => by
    have e : b = it := by simpa using hb
    subst e
    exact ⟨_, st, fun v z => by
      have z' : Data.fields _ = Data.cell v := z
      cases z'⟩
  keep := fun i h h' st k => k it (by simp) _ st
  item := by
    intro X hP hw hK hc i pins s σ H E I hf st hg
    subst hP hw hK
    obtain ⟨f0, f1, f2, f3, f4, f5⟩ := hf it (by simp)
    have W := Walks.range (prog := X.prog) (w := X.w) (I.ok.hd hc) it lo 1 n
    refine W.item i s _ _ hg st fun v h' tk hv st' kk => ?_
    obtain ⟨t, rfl⟩ := hv
    have I1 : Inv X pins σ H { s with heap := h', toks := tk } := I.turned (fun b o hb e => kk b o (by simpa using hb) e) f0 f1 f3 f4 f5
    refine ⟨_, rfl, go_of (s := { s with heap := h', toks := tk }) (n := "range_iterator") st' rfl rfl (by decide) ⟨.int (lo + i), H, I1, ⟨t, ?_⟩, ⟨rfl, rfl⟩, st', fun b hb => (hf b hb).1⟩⟩
    rw [Int.mul_one]
  done := by
    intro X hP hw hK hc i pins s σ H E I hf st hg
    subst hP hw hK
    obtain ⟨f0, f1, f2, f3, f4, f5⟩ := hf it (by simp)
    exact wpAny_pyNext_range_end (I.ok.hd hc) st (by have : n ≤ i := hg; omega) fun h' eb => ⟨rfl, I.turned (t' := s.toks) (fun b o hb e => eb b o hb e) f0 f1 f3 f4 f5⟩
  self := fun _ _ _ _ _ st h => wpAny_pyIter_rangeiter st h
end L2

namespace L2
open PySem PySem.Spec PyProof.Rows
section
variable {X : Cx} {tg : Expr}
def iList (K : PySem.W.Frag) (tl : TE) : TI := fun σ H R => tl σ H fun x H1 => ∃ a, x = .ref a ∧ (∃ xs, SqL K H1 a xs) ∧ R (Itl K a) H1
def iTup (K : PySem.W.Frag) (tl : TE) : TI := fun σ H R => tl σ H fun x H1 => ∃ a, x = .ref a ∧ (∃ xs, SqT K H1 a xs) ∧ R (Itt K a) H1
theorem pi_list {l : Expr} {tl : TE} (hl : PE X l tl) : PI X tg l (iList X.K tl) := by
  intro pins s σ H R I h
  refine thn (hl pins s σ H _ I h) fun v s1 ⟨x, H1, I1, r1, q1⟩ => ?_
  obtain ⟨a, e, ⟨xs, hq⟩, q⟩ := q1
  subst e
  cases r1
  obtain ⟨its, rv, p, hz⟩ := I1.list hq
  refine wpAny_pyIter_list p.isList ?_
  refine ⟨s1.heap.objs.size, [s1.heap.objs.size], _, _, H1, rfl, I1.kept (t' := s1.toks) fun b o e => Heap.get?_push_of_some _ e, turn_list a _, ⟨_, Heap.get?_push_size _ rfl, rfl, rfl⟩, fun b hb => ?_, q⟩
  have e : b = s1.heap.objs.size := by simpa using hb
  subst e
  exact I1.fpOk (Nat.le_refl _) (I1.hok.fresh (Nat.le_refl _))
theorem range_it {pins : List (Addr × Obj)} {σ : St} {H : Hp} {s : Shared} {R : It → Hp → Prop} {E : Value → Shared → Prop} {lo hi : Int} {t u v : Tok} {tk : Nat} (I : Inv X pins σ H s) (h1 : -(2 ^ 62) ≤ lo) (h2 : lo < 2 ^ 62) (h3 : -(2 ^ 62) ≤ hi) (h4 : hi < 2 ^ 62)
    (q : R (Itr lo (hi - lo).toNat) H) : wpAny (model X.prog X.w) X.A (pyIter (.ref s.heap.objs.size)) (PIE X pins σ tg R) E { s with heap := s.heap.push { cls := .type "range", data := .fields #[.int lo t, .int hi u, .int 1 v] }, toks := tk } := by
  refine wpAny_pyIter_range (IsRange.new ..) (small_one h1 h2 h3 h4) ?_
  have I1 : Inv X pins σ H { s with heap := s.heap.push { cls := .type "range", data := .fields #[.int lo t, .int hi u, .int 1 v] }, toks := tk } := I.kept fun b o e => Heap.get?_push_of_some _ e
  refine ⟨(s.heap.push { cls := .type "range", data := .fields #[.int lo t, .int hi u, .int 1 v] }).objs.size, [(s.heap.push { cls := .type "range", data := .fields #[.int lo t, .int hi u, .int 1 v] }).objs.size], _, _, H, rfl,
    I1.kept (t' := tk) fun b o e => Heap.get?_push_of_some _ e, turn_range _ lo (hi - lo).toNat, ?_, fun b hb => ?_, q⟩
  · have e1 : lo + ((0 : Nat) : Int) * 1 = lo := by simp
    have e2 : (((hi - lo).toNat : Nat) : Int) - ((0 : Nat) : Int) = Builtin.Range.rangeSize lo hi 1 := by rw [rangeSize_one]; split <;> omega
    show IsRangeIter _ _ (lo + ((0 : Nat) : Int) * 1) ((((hi - lo).toNat : Nat) : Int) - ((0 : Nat) : Int)) 1
    rw [e1, e2]
    exact Heap.get?_push_size _ rfl
  · have e : b = (s.heap.push { cls := .type "range", data := .fields #[.int lo t, .int hi u, .int 1 v] }).objs.size := by simpa using hb
    subst e
    exact I1.fpOk (Nat.le_refl _) (I1.hok.fresh (Nat.le_refl _))
def iRng1 (ta : TA) : TI := fun σ H R => ta σ H fun vs H1 => ∃ j : Int, vs = [.int j] ∧ -(2 ^ 62) ≤ j ∧ j < 2 ^ 62 ∧ R (Itr 0 j.toNat) H1
def iRng2 (ta : TA) : TI := fun σ H R => ta σ H fun vs H1 => ∃ i j : Int, vs = [.int i, .int j] ∧ (-(2 ^ 62) ≤ i ∧ i < 2 ^ 62 ∧ -(2 ^ 62) ≤ j ∧ j < 2 ^ 62) ∧ R (Itr i (j - i).toNat) H1
theorem pi_range1 {a : Expr} {ta : TA} {p pos : Pos} (hg : Gl X "range") (hm : X.mg "range" = none) (ha : PA X [a] ta) (hs : starEach [a] X.env = [(false, eval a X.env)] := by rfl) : PI X tg (.Call (.Name "range" p) [a] [] pos) (iRng1 ta) := by
  intro pins s σ H R I h
  refine Call_ (ld_blt I hg hm boot_range (PyProof.Rows.callWith_type1 (thn (ha pos pins s σ H _ I h) fun us s1 ⟨vs, H1, I1, r1, q1⟩ => ?_) hs rfl))
  obtain ⟨j, e, q1, q2, q⟩ := q1
  subst e
  cases r1 with
  | cons r rr =>
    cases rr
    obtain ⟨t, rfl⟩ := r
    exact call_range_1 (range_it I1 (by omega) (by omega) q1 q2 (by simpa using q))
def tFor (wi : TI) (g : TG) (tb : TS) : TS := fun D σ H => wi σ H fun J H1 => ∃ W : Nat → Nat → St → Hp → Prop, (∃ m, W 0 m σ H1) ∧ ∀ i m σ H, W i m σ H →
  (J.stop i H ∧ D.nx σ H) ∨ (J.go i H ∧ ∃ N : St → Hp → Prop, (∀ σ' H', N σ' H' → ∃ m', m' < m ∧ W (i + 1) m' σ' H') ∧ ∀ x H', J.yld i H x H' → g x σ H' fun σ2 H2 => tb { D with nx := N, ct := N, bk := D.nx } σ2 H2)
def pinsAt (fp : List Addr) (h : Heap) : List (Addr × Obj) := fp.filterMap fun b => (h.get? b).map fun o => (b, o)
theorem mem_pinsAt {fp : List Addr} {h : Heap} {b : Addr} {o : Obj} (hb : b ∈ fp) (e : h.get? b = some o) : (b, o) ∈ pinsAt fp h := List.mem_filterMap.mpr ⟨b, hb, by rw [e]; rfl⟩
theorem of_pinsAt {fp : List Addr} {h : Heap} {p : Addr × Obj} (hp : p ∈ pinsAt fp h) : p.1 ∈ fp ∧ h.get? p.1 = some p.2 := by
  obtain ⟨b, hb, e⟩ := List.mem_filterMap.mp hp
  cases q : h.get? b with
  | none => rw [q] at e; cases e
  | some o =>
    rw [q] at e
    have e' : (b, o) = p := Option.some.inj e
    subst e'
    exact ⟨hb, q⟩
theorem Inv.pinned {pins : List (Addr × Obj)} {σ : St} {H : Hp} {s : Shared} {fp : List Addr} (I : Inv X pins σ H s) (hf : ∀ b ∈ fp, FpOk X pins H b) (ho : ∀ b ∈ fp, ∃ o, s.heap.get? b = some o ∧ ∀ v, o.data ≠ .cell v) : Inv X (pins ++ pinsAt fp s.heap) σ H s :=
  I.pins_of fun p hp => (List.mem_append.mp hp).elim (fun z => I.pin p (List.mem_append_right _ z)) fun z => by
    obtain ⟨hb, e⟩ := of_pinsAt z
    obtain ⟨f0, f1, f2, _⟩ := hf p.1 hb
    obtain ⟨o, e', d⟩ := ho p.1 hb
    rw [e] at e'; cases e'
    exact ⟨e, f0, f1, f2, d⟩
theorem Inv.unpinned {pins pl : List (Addr × Obj)} {σ : St} {H : Hp} {s : Shared} (I : Inv X (pins ++ pl) σ H s) : Inv X pins σ H s := I.pins_of fun p hp => I.pin p (List.mem_append_right _ (List.mem_append_left _ hp))
theorem ps_for {iter : Expr} {body : List Stmt} {wi : TI} {g : TG} {tb : TS} {pos : Pos} (hp : PassesOwn (model X.prog X.w) X.A X.env X.xe) (hc : X.calm = true) (hi : PI X tg iter wi) (hg : PG X tg g) (hb : PSs X body tb)
    (hs : ∀ x, foldedSetIterable iter X.env x = pure x := by intro _; rfl) : PS X (.For tg iter body [] pos) (tFor wi g tb) := by
  intro pins s σ H D I h
  refine wpAny_For (thn (hi pins s σ H _ I h) fun v s1 h1 => thn h1 fun itv s2 h2 => ?_) hs
  obtain ⟨it, fp, tn, J, H2, e, I2, T, st2, f2, W, ⟨m0, w0⟩, turn⟩ := h2
  subst e
  -- what stays true of the iterator's objects through the loop
  have stat : ∀ {H' : Hp}, (∀ b ∈ fp, H' b = none) → ∀ b ∈ fp, FpOk X pins H' b := fun hn b hb => ⟨hn b hb, (f2 b hb).2⟩
  refine codeAny_forLoop_any (fun n s' => ∃ i σ' H', Inv X pins σ' H' s' ∧ tn i s'.heap ∧ (∀ b ∈ fp, H' b = none) ∧ W i n σ' H') ?_ m0 ⟨0, σ, H2, I2, st2, fun b hb => (f2 b hb).1, w0⟩
  rintro n s3 ⟨i, σ3, H3, I3, st3, fr3, w3⟩
  rcases turn i n σ3 H3 w3 with ⟨stop, qn⟩ | ⟨go, N, hN, step⟩
  · refine wpAny_passesOwn hp (thn (T.done X rfl rfl rfl hc i pins s3 σ3 H3 X.xe I3 (stat fr3) st3 stop) fun r s4 ⟨hr, I4⟩ => ?_)
    subst hr
    exact wpAny_execs_nil ⟨σ3, H3, I4, qn⟩
  · refine wpAny_passesOwn hp (thn (T.item X rfl rfl rfl hc i pins s3 σ3 H3 X.xe I3 (stat fr3) st3 go) fun r s4 ⟨u, hr, h4⟩ => ?_)
    subst hr
    refine wpAny_passesOwn hp (thn h4 fun _ s5 ⟨x, H5, I5, r5, y5, st5, fr5⟩ => ?_)
    have I5' := I5.pinned (stat fr5) (T.obj _ _ st5)
    refine wpAny_passesOwn hp (thn (hg _ s5 σ3 H5 x u _ I5' r5 (step x H5 y5)) fun _ s6 ⟨σ6, H6, I6, q6⟩ => ?_)
    refine wpAny_passesOwn hp (thn (hb _ s6 σ6 H6 _ I6 q6) fun f s7 q7 => ?_)
    have again : ∀ {σ7 : St} {H7 : Hp}, Inv X (pins ++ pinsAt fp s5.heap) σ7 H7 s7 → N σ7 H7 → ∃ m, m < n ∧ ∃ i σ' H', Inv X pins σ' H' s7 ∧ tn i s7.heap ∧ (∀ b ∈ fp, H' b = none) ∧ W i m σ' H' := fun {σ7 H7} I7 n7 => by
      obtain ⟨m', hm, w7⟩ := hN σ7 H7 n7
      refine ⟨m', hm, i + 1, σ7, H7, I7.unpinned, T.keep _ _ _ st5 fun b hb o e => (I7.pin (b, o) (List.mem_append_right _ (List.mem_append_right _ (mem_pinsAt hb e)))).1, fun b hb => ?_, w7⟩
      obtain ⟨o, e, d⟩ := T.obj _ _ st5 b hb
      exact (I7.pin (b, o) (List.mem_append_right _ (List.mem_append_right _ (mem_pinsAt hb e)))).2.1
    cases f with
    | next => obtain ⟨σ7, H7, I7, n7⟩ := q7; exact again I7 n7
    | cont => obtain ⟨σ7, H7, I7, n7⟩ := q7; exact again I7 n7
    | brk => obtain ⟨σ7, H7, I7, q7⟩ := q7; exact ⟨σ7, H7, I7.unpinned, q7⟩
    | ret v => obtain ⟨x7, σ7, H7, I7, r7, q7⟩ := q7; exact ⟨x7, σ7, H7, I7.unpinned, r7, q7⟩
end

theorem for_list {K : PySem.W.Frag} {a : Addr} {xs : List V} {g : TG} {tb : TS} {D : Ends} {σ : St} {H : Hp} (Pv : Nat → St → Hp → Prop) (h0 : Pv 0 σ H) (hl : ∀ i σ H, i ≤ xs.length → Pv i σ H → SqL K H a xs)
    (hs : ∀ i x σ H, xs[i]? = some x → Pv i σ H → g x σ H fun σ2 H2 => tb { D with nx := Pv (i + 1), ct := Pv (i + 1), bk := D.nx } σ2 H2) (hd : ∀ σ H, Pv xs.length σ H → D.nx σ H) :
    ∃ W : Nat → Nat → St → Hp → Prop, (∃ m, W 0 m σ H) ∧ ∀ i m σ H, W i m σ H →
      ((Itl K a).stop i H ∧ D.nx σ H) ∨ ((Itl K a).go i H ∧ ∃ N : St → Hp → Prop, (∀ σ' H', N σ' H' → ∃ m', m' < m ∧ W (i + 1) m' σ' H') ∧ ∀ x H', (Itl K a).yld i H x H' → g x σ H' fun σ2 H2 => tb { D with nx := N, ct := N, bk := D.nx } σ2 H2) := by
  refine ⟨fun i m σ H => m = xs.length - i ∧ i ≤ xs.length ∧ Pv i σ H, ⟨xs.length, by simp, Nat.zero_le _, h0⟩, ?_⟩
  rintro i m σ H ⟨rfl, hi, p⟩
  have q := hl i σ H hi p
  by_cases hlt : i < xs.length
  · refine .inr ⟨⟨xs, xs[i], q, by simp [hlt]⟩, Pv (i + 1), fun σ' H' p' => ⟨xs.length - (i + 1), by omega, rfl, hlt, p'⟩, fun x H' y => ?_⟩
    obtain ⟨e, y⟩ := y
    subst e
    exact hs i x σ _ (y xs q) p
  · have e : i = xs.length := by omega
    subst e
    exact .inl ⟨⟨xs, q, Nat.le_refl _⟩, hd σ H p⟩
theorem for_range {lo : Int} {n : Nat} {g : TG} {tb : TS} {D : Ends} {σ : St} {H : Hp} (Pv : Nat → St → Hp → Prop) (h0 : Pv 0 σ H)
    (hs : ∀ i σ H, i < n → Pv i σ H → g (.int (lo + i)) σ H fun σ2 H2 => tb { D with nx := Pv (i + 1), ct := Pv (i + 1), bk := D.nx } σ2 H2) (hd : ∀ σ H, Pv n σ H → D.nx σ H) :
    ∃ W : Nat → Nat → St → Hp → Prop, (∃ m, W 0 m σ H) ∧ ∀ i m σ H, W i m σ H →
      ((Itr lo n).stop i H ∧ D.nx σ H) ∨ ((Itr lo n).go i H ∧ ∃ N : St → Hp → Prop, (∀ σ' H', N σ' H' → ∃ m', m' < m ∧ W (i + 1) m' σ' H') ∧ ∀ x H', (Itr lo n).yld i H x H' → g x σ H' fun σ2 H2 => tb { D with nx := N, ct := N, bk := D.nx } σ2 H2) := by
  refine ⟨fun i m σ H => m = n - i ∧ i ≤ n ∧ Pv i σ H, ⟨n, by simp, Nat.zero_le _, h0⟩, ?_⟩
  rintro i m σ H ⟨rfl, hi, p⟩
  by_cases hlt : i < n
  · refine .inr ⟨hlt, Pv (i + 1), fun σ' H' p' => ⟨n - (i + 1), by omega, rfl, hlt, p'⟩, fun x H' y => ?_⟩
    obtain ⟨e, y⟩ := y
    subst e y
    exact hs i σ _ hlt p
  · have e : i = n := by omega
    subst e
    exact .inl ⟨Nat.le_refl _, hd σ H p⟩
end L2

namespace L2
open PySem PySem.Spec PyProof.Rows

abbrev R2 := V → V → Hp → VK → Prop
def OpR (X : Cx) (f : Value → Value → Sem Value) (r : R2) : Prop :=
  ∀ (pins : List (Addr × Obj)) (s : Shared) (σ : St) (H : Hp) (x y : V) (v u : Value) (Q : VK), Inv X pins σ H s → RelV x v → RelV y u → r x y H Q →
    wpAny (model X.prog X.w) X.A (f v u) (EP X pins σ Q) X.xe s
def UnR (X : Cx) (f : Value → Sem Value) (r : V → Hp → VK → Prop) : Prop :=
  ∀ (pins : List (Addr × Obj)) (s : Shared) (σ : St) (H : Hp) (x : V) (v : Value) (Q : VK), Inv X pins σ H s → RelV x v → r x H Q →
    wpAny (model X.prog X.w) X.A (f v) (EP X pins σ Q) X.xe s
def CallR (X : Cx) (f : Value) (r : List V → Hp → VK → Prop) : Prop :=
  ∀ (pins : List (Addr × Obj)) (s : Shared) (σ : St) (H : Hp) (xs : List V) (us : List Value) (Q : VK), Inv X pins σ H s → Vals xs us → r xs H Q →
    wpAny (model X.prog X.w) X.A (call f us) (EP X pins σ Q) X.xe s
def TruR (X : Cx) (r : V → Hp → (Bool → Hp → Prop) → Prop) : Prop :=
  ∀ (pins : List (Addr × Obj)) (s : Shared) (σ : St) (H : Hp) (x : V) (v : Value) (Q : Bool → Hp → Prop), Inv X pins σ H s → RelV x v → r x H Q →
    wpAny (model X.prog X.w) X.A (truthy v) (TP X pins σ Q) X.xe s

def tOp (r : R2) (ta tb : TE) : TE := fun σ H Q => ta σ H fun x H1 => tb σ H1 fun y H2 => r x y H2 Q
def tUn (r : V → Hp → VK → Prop) (ta : TE) : TE := fun σ H Q => ta σ H fun x H1 => r x H1 Q
def rI (C : Int → Int → Prop) (g : Int → Int → V) : R2 := fun x y H Q => ∃ i j, x = .int i ∧ y = .int j ∧ C i j ∧ Q (g i j) H
def rI0 (g : Int → Int → V) : R2 := fun x y H Q => ∃ i j, x = .int i ∧ y = .int j ∧ Q (g i j) H
def rU (g : Int → V) : V → Hp → VK → Prop := fun x H Q => ∃ i, x = .int i ∧ Q (g i) H

section
variable {X : Cx} {a b c : Expr} {ta tb tc : TE} {pos : Pos}

theorem binT (ha : PE X a ta) (hb : PE X b tb) {pins : List (Addr × Obj)} {s : Shared} {σ : St} {H : Hp} {R : V → V → Hp → Prop} (I : Inv X pins σ H s)
    (h : ta σ H fun x H1 => tb σ H1 fun y H2 => R x y H2) {Q : Value → Shared → Prop} {f : Value → Value → Sem Value}
    (hf : ∀ v u s2 x y H2, Inv X pins σ H2 s2 → RelV x v → RelV y u → R x y H2 → wpAny (model X.prog X.w) X.A (f v u) Q X.xe s2) :
    wpAny (model X.prog X.w) X.A (eval a X.env) (fun v s₁ => wpAny (model X.prog X.w) X.A (eval b X.env) (fun u s₂ => wpAny (model X.prog X.w) X.A (f v u) Q X.xe s₂) X.xe s₁) X.xe s := by
  refine thn (ha pins s σ H _ I h) fun v s1 ⟨x, H1, I1, r1, q1⟩ => ?_
  refine thn (hb pins s1 σ H1 _ I1 q1) fun u s2 ⟨y, H2, I2, r2, q2⟩ => ?_
  exact hf v u s2 x y H2 I2 r1 r2 q2

theorem pe_op {op : Operator} {r : R2} (ho : OpR X (binaryOp op) r) (ha : PE X a ta) (hb : PE X b tb) : PE X (.BinOp a op b pos) (tOp r ta tb) := by
  intro pins s σ H Q I h
  exact wpAny_BinOp (binT ha hb I h fun v u s2 x y H2 I2 rx ry q => ho pins s2 σ H2 x y v u Q I2 rx ry q)
theorem pe_un {op : UnaryOp} {r : V → Hp → VK → Prop} (ho : UnR X (unaryOp op) r) (ha : PE X a ta) : PE X (.UnaryOp op a pos) (tUn r ta) := by
  intro pins s σ H Q I h
  exact UnaryOp_ (thn (ha pins s σ H _ I h) fun v s1 ⟨x, H1, I1, r1, q1⟩ => ho pins s1 σ H1 x v Q I1 r1 q1)
theorem opI {f : Value → Value → Sem Value} {C : Int → Int → Prop} {g : Int → Int → Int}
    (rule : ∀ (i j : Int) (t u : Tok) (s : Shared) (Q : Value → Shared → Prop) (E : Value → Shared → Prop), C i j → Q (.int (g i j) s.toks) { s with toks := s.toks + 1 } → wpAny (model X.prog X.w) X.A (f (.int i t) (.int j u)) Q E s) :
    OpR X f (rI C fun i j => .int (g i j)) := by
  intro pins s σ H x y v u Q I rx ry h
  obtain ⟨i, j, rfl, rfl, hc, q⟩ := h
  obtain ⟨t, rfl⟩ := rx
  obtain ⟨t', rfl⟩ := ry
  exact rule i j t t' s _ _ hc ⟨.int (g i j), H, I.tok _, ⟨_, rfl⟩, q⟩
theorem opI0 {f : Value → Value → Sem Value} {g : Int → Int → Int}
    (rule : ∀ (i j : Int) (t u : Tok) (s : Shared) (Q : Value → Shared → Prop) (E : Value → Shared → Prop), Q (.int (g i j) s.toks) { s with toks := s.toks + 1 } → wpAny (model X.prog X.w) X.A (f (.int i t) (.int j u)) Q E s) :
    OpR X f (rI0 fun i j => .int (g i j)) := by
  intro pins s σ H x y v u Q I rx ry h
  obtain ⟨i, j, rfl, rfl, q⟩ := h
  obtain ⟨t, rfl⟩ := rx
  obtain ⟨t', rfl⟩ := ry
  exact rule i j t t' s _ _ ⟨.int (g i j), H, I.tok _, ⟨_, rfl⟩, q⟩
theorem opB0 {f : Value → Value → Sem Value} {g : Int → Int → Bool}
    (rule : ∀ (i j : Int) (t u : Tok) (s : Shared) (Q : Value → Shared → Prop) (E : Value → Shared → Prop), Q (.bool (g i j)) s → wpAny (model X.prog X.w) X.A (f (.int i t) (.int j u)) Q E s) :
    OpR X f (rI0 fun i j => .bl (g i j)) := by
  intro pins s σ H x y v u Q I rx ry h
  obtain ⟨i, j, rfl, rfl, q⟩ := h
  obtain ⟨t, rfl⟩ := rx
  obtain ⟨t', rfl⟩ := ry
  exact rule i j t t' s _ _ ⟨.bl (g i j), H, I, rfl, q⟩

def CDiv (i j : Int) : Prop := 0 < j ∧ j < 1073741824
def CDivN (i j : Int) : Prop := j ≠ 0 ∧ j.natAbs < 1073741824
def CPow (i j : Int) : Prop := 0 ≤ j ∧ j ≤ 1000000 ∧ i.natAbs < 2 ^ 64
def CMul (i j : Int) : Prop := (-(2 ^ 64) < i ∧ i < 2 ^ 64) ∨ (-(2 ^ 64) < j ∧ j < 2 ^ 64)
theorem CMul.ok {i j : Int} (h : CMul i j) : IntMulOk i j := by
  rcases h with ⟨h1, h2⟩ | ⟨h1, h2⟩
  · exact .of_left (intBits_le_64 h1 h2)
  · exact .of_right (intBits_le_64 h1 h2)
theorem op_add : OpR X (binaryOp .Add) (rI0 fun i j => .int (i + j)) := opI0 fun _ _ _ _ _ _ _ q => add_int q
theorem op_mul : OpR X (binaryOp .Mult) (rI CMul fun i j => .int (i * j)) := opI fun _ _ _ _ _ _ _ hc q => mul_int q hc.ok
theorem op_fdiv : OpR X (binaryOp .FloorDiv) (rI CDiv fun i j => .int (i / j)) := opI fun i j _ _ _ _ _ hc q => by
  have h1 : (0 : Int) < j := hc.1
  have h2 : j < 1073741824 := hc.2
  exact floordiv_int (by omega) (by rw [Int.fdiv_eq_ediv_of_nonneg i (by omega)]; exact q) (.inl (PyProof.noPylong_small (by omega)))
theorem op_mod : OpR X (binaryOp .Mod) (rI (fun _ j => 0 < j) fun i j => .int (i % j)) := opI fun i j _ _ _ _ _ hc q => by
  have h1 : (0 : Int) < j := hc
  exact mod_int' (by omega) (by rw [Int.fmod_eq_emod_of_nonneg i (by omega)]; exact q)
theorem op_pow : OpR X (binaryOp .Pow) (rI CPow fun i j => .int (i ^ j.toNat)) := opI fun _ _ _ _ _ _ _ hc q => pow_int_small hc.1 hc.2.1 hc.2.2 q
theorem unI {f : Value → Sem Value} {g : Int → Int}
    (rule : ∀ (i : Int) (t : Tok) (s : Shared) (Q : Value → Shared → Prop) (E : Value → Shared → Prop), Q (.int (g i) s.toks) { s with toks := s.toks + 1 } → wpAny (model X.prog X.w) X.A (f (.int i t)) Q E s) :
    UnR X f (rU fun i => .int (g i)) := by
  intro pins s σ H x v Q I rx h
  obtain ⟨i, rfl, q⟩ := h
  obtain ⟨t, rfl⟩ := rx
  exact rule i t s _ _ ⟨.int (g i), H, I.tok _, ⟨_, rfl⟩, q⟩
theorem un_neg : UnR X (unaryOp .USub) (rU fun i => .int (-i)) := unI fun _ _ _ _ _ q => neg_int q
end

def scal : V → V → Bool
  | .non, .non => true | .non, .int _ => true | .int _, .non => true | .non, .bl _ => true | .bl _, .non => true | .non, .str _ => true | .str _, .non => true
  | .int _, .int _ => true | .bl _, .bl _ => true | .str _, .str _ => true | .byt _, .byt _ => true
  | .int _, .str _ => true | .str _, .int _ => true | .bl _, .str _ => true | .str _, .bl _ => true
  | _, _ => false
def rEq : R2 := fun x y H Q => scal x y = true ∧ Q (.bl (decide (x = y))) H
def rNe : R2 := fun x y H Q => scal x y = true ∧ Q (.bl (!decide (x = y))) H

theorem dec_int {i j : Int} : decide (V.int i = V.int j) = (i == j) := by
  rw [Bool.eq_iff_iff]
  simp
theorem dec_bl {i j : Bool} : decide (V.bl i = V.bl j) = (i == j) := by
  rw [Bool.eq_iff_iff]
  simp
theorem dec_str {i j : Str} : decide (V.str i = V.str j) = (i == j) := by
  rw [Bool.eq_iff_iff]
  simp
theorem dec_byt {i j : Array UInt8} : decide (V.byt i = V.byt j) = (i.toList == j.toList) := by
  rw [Bool.eq_iff_iff]
  cases i
  cases j
  simp

section
variable {X : Cx} {a b c : Expr} {ta tb tc : TE} {pos : Pos}
theorem fin_bl {pins : List (Addr × Obj)} {σ : St} {H : Hp} {s : Shared} {Q : VK} {k k' : Bool} (I : Inv X pins σ H s) (q : Q (.bl k) H) (e : k = k') : EP X pins σ Q (.bool k') s := by
  subst e
  exact ⟨.bl k, H, I, rfl, q⟩
theorem op_eq : OpR X (compareOp .Eq) rEq := by
  intro pins s σ H x y v u Q I rx ry h
  obtain ⟨hs, q⟩ := h
  cases x with
  | non =>
    cases rx
    cases y with
    | non => cases ry; exact PySem.EqNone.eq_none_none (fin_bl I q (by simp))
    | bl j => cases ry; exact PySem.EqNone.eq_none_bool (fin_bl I q (by simp))
    | int j => obtain ⟨t', rfl⟩ := ry; exact PySem.EqNone.eq_none_int (fin_bl I q (by simp))
    | str j => obtain ⟨t', rfl⟩ := ry; exact PySem.EqNone.eq_none_str (fin_bl I q (by simp))
    | _ => exact absurd (show false = true from hs) Bool.false_ne_true
  | bl i =>
    cases rx
    cases y with
    | non => cases ry; exact PySem.EqNone.eq_bool_none (fin_bl I q (by simp))
    | bl j => cases ry; exact eq_bool (fin_bl I q dec_bl)
    | str j => obtain ⟨t', rfl⟩ := ry; exact PySem.EqMixed.eq_bool_str (fin_bl I q (by simp))
    | _ => exact absurd (show false = true from hs) Bool.false_ne_true
  | int i =>
    obtain ⟨t, rfl⟩ := rx
    cases y with
    | non => cases ry; exact PySem.EqNone.eq_int_none (fin_bl I q (by simp))
    | int j => obtain ⟨t', rfl⟩ := ry; exact eq_int (fin_bl I q dec_int)
    | str j => obtain ⟨t', rfl⟩ := ry; exact PySem.EqMixed.eq_int_str (fin_bl I q (by simp))
    | _ => exact absurd (show false = true from hs) Bool.false_ne_true
  | str i =>
    obtain ⟨t, rfl⟩ := rx
    cases y with
    | non => cases ry; exact PySem.EqNone.eq_str_none (fin_bl I q (by simp))
    | bl j => cases ry; exact PySem.EqMixed.eq_str_bool (fin_bl I q (by simp))
    | int j => obtain ⟨t', rfl⟩ := ry; exact PySem.EqMixed.eq_str_int (fin_bl I q (by simp))
    | str j => obtain ⟨t', rfl⟩ := ry; exact eq_str (fin_bl I q dec_str)
    | _ => exact absurd (show false = true from hs) Bool.false_ne_true
  | byt i =>
    obtain ⟨t, rfl⟩ := rx
    cases y with
    | byt j => obtain ⟨t', rfl⟩ := ry; exact PySem.W.eq_bytes (fin_bl I q dec_byt)
    | _ => exact absurd (show false = true from hs) Bool.false_ne_true
  | _ => cases y <;> exact absurd (show false = true from hs) Bool.false_ne_true
theorem op_ne : OpR X (compareOp .NotEq) rNe := by
  intro pins s σ H x y v u Q I rx ry h
  obtain ⟨hs, q⟩ := h
  cases x with
  | non =>
    cases rx
    cases y with
    | non => cases ry; exact PySem.EqNone.ne_none_none (fin_bl I q (by simp))
    | bl j => cases ry; exact PySem.EqNone.ne_none_bool (fin_bl I q (by simp))
    | int j => obtain ⟨t', rfl⟩ := ry; exact PySem.EqNone.ne_none_int (fin_bl I q (by simp))
    | str j => obtain ⟨t', rfl⟩ := ry; exact PySem.EqNone.ne_none_str (fin_bl I q (by simp))
    | _ => exact absurd (show false = true from hs) Bool.false_ne_true
  | bl i =>
    cases rx
    cases y with
    | non => cases ry; exact PySem.EqNone.ne_bool_none (fin_bl I q (by simp))
    | bl j => cases ry; exact ne_bool (fin_bl I q (congrArg not dec_bl))
    | str j => obtain ⟨t', rfl⟩ := ry; exact PySem.EqMixed.ne_bool_str (fin_bl I q (by simp))
    | _ => exact absurd (show false = true from hs) Bool.false_ne_true
  | int i =>
    obtain ⟨t, rfl⟩ := rx
    cases y with
    | non => cases ry; exact PySem.EqNone.ne_int_none (fin_bl I q (by simp))
    | int j => obtain ⟨t', rfl⟩ := ry; exact ne_int (fin_bl I q (congrArg not dec_int))
    | str j => obtain ⟨t', rfl⟩ := ry; exact PySem.EqMixed.ne_int_str (fin_bl I q (by simp))
    | _ => exact absurd (show false = true from hs) Bool.false_ne_true
  | str i =>
    obtain ⟨t, rfl⟩ := rx
    cases y with
    | non => cases ry; exact PySem.EqNone.ne_str_none (fin_bl I q (by simp))
    | bl j => cases ry; exact PySem.EqMixed.ne_str_bool (fin_bl I q (by simp))
    | int j => obtain ⟨t', rfl⟩ := ry; exact PySem.EqMixed.ne_str_int (fin_bl I q (by simp))
    | str j => obtain ⟨t', rfl⟩ := ry; exact ne_str (fin_bl I q (congrArg not dec_str))
    | _ => exact absurd (show false = true from hs) Bool.false_ne_true
  | byt i =>
    obtain ⟨t, rfl⟩ := rx
    cases y with
    | byt j => obtain ⟨t', rfl⟩ := ry; exact PySem.W.ne_bytes (fin_bl I q (congrArg not dec_byt))
    | _ => exact absurd (show false = true from hs) Bool.false_ne_true
  | _ => cases y <;> exact absurd (show false = true from hs) Bool.false_ne_true

theorem op_lt : OpR X (compareOp .Lt) (rI0 fun i j => .bl (decide (i < j))) := opB0 fun _ _ _ _ _ _ _ q => lt_int q
theorem op_gt : OpR X (compareOp .Gt) (rI0 fun i j => .bl (decide (j < i))) := opB0 fun _ _ _ _ _ _ _ q => gt_int q
theorem op_isN : OpR X (compareOp .Is) (fun x y H Q => y = .non ∧ Q (.bl (decide (x = .non))) H) := by
  intro pins s σ H x y v u Q I rx ry h
  obtain ⟨rfl, q⟩ := h
  cases ry
  refine is_none_gen (fin_bl I q ?_)
  cases x <;> first
    | (cases rx; rfl)
    | (obtain ⟨t, rfl⟩ := rx; rfl)
def isObj : HO → Bool
  | .lst _ => true
  | .ins _ _ _ => true
  | _ => false
theorem OpR.or {f : Value → Value → Sem Value} {r r' : R2} (h : OpR X f r) (h' : OpR X f r') : OpR X f (fun x y H Q => r x y H Q ∨ r' x y H Q) := by
  intro pins s σ H x y v u Q I rx ry q
  rcases q with q | q
  · exact h pins s σ H x y v u Q I rx ry q
  · exact h' pins s σ H x y v u Q I rx ry q

theorem nomark (b : Expr) {op : CmpOp} (h : op ≠ .In := by decide) (h2 : op ≠ .NotIn := by decide) : behindInMarks op b = false := by
  have e1 : (op == CmpOp.In) = false := by cases op <;> first | rfl | exact absurd rfl h
  have e2 : (op == CmpOp.NotIn) = false := by cases op <;> first | rfl | exact absurd rfl h2
  cases b <;> simp [behindInMarks, e1, e2]
theorem pe_cmpR {op : CmpOp} {r : R2} (ho : OpR X (compareOp op) r) (ha : PE X a ta) (hb : PE X b tb) (hm : behindInMarks op b = false) : PE X (.Compare a [op] [b] pos) (tOp r ta tb) := by
  intro pins s σ H Q I h
  exact wpAny_Compare1 (binT ha hb I h fun v u s2 x y H2 I2 rx ry q => ho pins s2 σ H2 x y v u Q I2 rx ry q) hm
def tTest (t : TE) : TT := fun σ H Q => t σ H fun x H' => ∃ k, x = .bl k ∧ Q k H'
theorem pt_cmpR {op : CmpOp} {r : R2} (ho : OpR X (compareOp op) r) (ha : PE X a ta) (hb : PE X b tb) (hm : behindInMarks op b = false) : PT X (.Compare a [op] [b] pos) (tTest (tOp r ta tb)) := by
  intro pins s σ H Q I h
  refine wpAny_isTrue_Compare1 (thn (ha pins s σ H _ I h) fun v s1 ⟨x, H1, I1, r1, q1⟩ => thn (hb pins s1 σ H1 _ I1 q1) fun u s2 ⟨y, H2, I2, r2, q2⟩ =>
    thn (ho pins s2 σ H2 x y v u _ I2 r1 r2 q2) fun c s3 ⟨z, H3, I3, r3, k, e, q3⟩ => ?_) hm
  subst e
  cases r3
  exact wpAny_truthy_bool ⟨H3, I3, q3⟩
def tChain (r r' : R2) (ta tb tc : TE) : TE := fun σ H Q => ta σ H fun x H1 => tb σ H1 fun y H2 => r x y H2 fun z H3 => ∃ k, z = .bl k ∧
  (if k = true then tc σ H3 fun w' H4 => r' y w' H4 Q else Q (.bl false) H3)
def TruV (K : PySem.W.Frag) (x : V) (H : Hp) (k : Bool) : Prop :=
  match x with
  | .non => k = false
  | .bl b => k = b
  | .int i => k = (i != 0)
  | .str y => y.length ≤ sizeLine ∧ k = ((y.length : Int) != 0)
  | .byt y => y.size ≤ sizeLine ∧ k = ((y.size : Int) != 0)
  | .ref p => (∃ xs, SqL K H p xs ∧ k = !xs.isEmpty) ∨ (∃ xs, SqT K H p xs ∧ k = !xs.isEmpty) ∨ ∃ kvs, H p = some (.dK kvs) ∧ k = !kvs.isEmpty
  | _ => False
theorem line63 : (sizeLine : Nat) < 2 ^ 63 := by rw [sizeLine_eq]; decide
theorem op_add_str : OpR X (binaryOp .Add) (fun x y H Q => ∃ i j, x = .str i ∧ y = .str j ∧ i.length + j.length ≤ sizeLine ∧ Q (.str (i ++ j)) H) := by
  intro pins s σ H x y v u Q I rx ry h
  obtain ⟨i, j, rfl, rfl, hz, q⟩ := h
  obtain ⟨t, rfl⟩ := rx
  obtain ⟨t', rfl⟩ := ry
  exact add_str (fun t' tk => ⟨.str (i ++ j), H, I.tok _, ⟨_, rfl⟩, q⟩) hz
def PlainIxT (b : Expr) : Prop := ∀ o i, subscripted b false o i = operate [o, i] (getItem o i)
theorem vals1 {x : V} {us : List Value} (r : Vals [x] us) : ∃ u, us = [u] ∧ RelV x u := by
  cases r with
  | cons r1 r2 => cases r2; exact ⟨_, rfl, r1⟩
def LenV (K : PySem.W.Frag) (x : V) (H : Hp) (n : Nat) : Prop :=
  match x with
  | .str y => y.length ≤ sizeLine ∧ n = y.length
  | .byt y => y.size ≤ sizeLine ∧ n = y.size
  | .ref p => (∃ xs, SqL K H p xs ∧ n = xs.length) ∨ ∃ xs, SqT K H p xs ∧ n = xs.length
  | _ => False
end
end L2

namespace L2
open PySem PySem.Spec PyProof.Rows

structure ObjM (h : Heap) (x dx C : Addr) (mA : Str → Option Value) : Prop where
  obj : h.get? x = some (PySem.W.instObj C dx)
  ns : h.Ns1 dx mA
  ne : dx ≠ x

theorem lookIn_ns {h : Heap} {dx : Addr} {mA : Str → Option Value} (n : h.Ns1 dx mA) : ∃ od, h.get? dx = some od ∧ ∀ name, PySem.W.lookIn name od = some (mA name) := by
  obtain ⟨o, es, ep, ho, hd, hk, _, hm⟩ := n
  refine ⟨o, ho, fun name => ?_⟩
  have e := hm name
  unfold nsFind findBy at e
  rw [← Array.find?_toList] at e
  unfold PySem.W.lookIn
  rw [hd]
  dsimp only
  split
  · rename_i y q
    rw [q] at e
    exact congrArg some e
  · rename_i q
    rw [q] at e
    have a : es.toList.any (·.refKey) = false := by
      rw [List.any_eq_false]
      intro y hy
      obtain ⟨z, t, hkey⟩ := hk y (Array.mem_toList_iff.mp hy)
      simp [DictEntry.refKey, hkey]
    have a' : ¬ es.toList.any (·.refKey) = true := by rw [a]; exact Bool.false_ne_true
    rw [if_neg a']
    exact congrArg some e

theorem ObjM.look {h : Heap} {x dx C : Addr} {mA : Str → Option Value} (I : ObjM h x dx C mA) : ∃ od, PySem.W.InstAt h x (PySem.W.instObj C dx) C (some od) ∧ ∀ name, PySem.W.lookIn name od = some (mA name) :=
  let ⟨od, ho, hl⟩ := lookIn_ns I.ns
  ⟨od, ⟨I.obj, rfl, rfl, ho⟩, hl⟩

section
variable {prog : Program} {w : World} {A : Around} {E : Value → Shared → Prop} {s : Shared} {K : PySem.W.Frag} {x dx C f : Addr} {mA : Str → Option Value} {name : Str} {v : Value}

end

def putF (f : Str) (v : V) : List (Str × V) → List (Str × V)
  | [] => [(f, v)]
  | (g, x) :: r => if g = f then (g, v) :: r else (g, x) :: putF f v r
theorem RelO.none_of {o : Option Value} (r : RelO none o) : o = none := by
  cases o with
  | none => rfl
  | some u => exact (show False from r).elim
section
variable {P : Program} {w : World} {H H' : Hp} {h h' : Heap} {a C dx : Addr} {fs fs' : List (Str × V)}
theorem ins_get (hok : HOk P w H h) (e : H a = some (.ins C dx fs)) : ∃ mA, ObjM h a dx C mA ∧ (∀ f, RelO (fs.lookup f) (mA f)) ∧ PySem.Within mA (fs.map (·.1)) ∧ fs.length ≤ 1000 ∧ H dx = some (.own a) := by
  obtain ⟨d, z, ne, ob, mA, n, r, q⟩ := (show ObjOk P w H h a (.ins C dx fs) from hok a _ e)
  exact ⟨mA, ⟨ob, n, ne⟩, r, q, z, d⟩
end

structure Cls (K : PySem.W.Frag) (C : Addr) : Prop where
  pg : PySem.W.plainGet K C Str.empty = true
  hd : PySem.W.hasDictIn K C = true
  po : PySem.W.plainOver K C = true
  sa : PySem.W.findIn K (.ref C) "__setattr__" = some (some (.builtin "object.__setattr__"))
theorem Cls.get {K : PySem.W.Frag} {C : Addr} (c : Cls K C) (f : Str) : PySem.W.plainGet K C f = true := c.pg
def NoAttr (K : PySem.W.Frag) (C : Addr) (f : Str) : Prop := PySem.W.findIn K (.ref C) f = some none
structure Con (K : PySem.W.Frag) (C : Addr) (f : Str) (v : V) (u : Value) : Prop where
  at_ : PySem.W.findIn K (.ref C) f = some (some u)
  rel : RelV v u
  get : PySem.W.specialIn K u "__get__" = some none
  cp : PySem.W.copiedNames.contains f = false
structure Meth (K : PySem.W.Frag) (C : Addr) (m : Str) (f : Addr) : Prop where
  at_ : PySem.W.findIn K (.ref C) m = some (some (.ref f))
  fn : PySem.W.isFn K (.ref f) = true
  kp : PySem.W.keepIn K (.ref f) = true

section
variable {X : Cx} {pins : List (Addr × Obj)} {σ : St} {H : Hp} {s : Shared} {a C dx : Addr} {fs : List (Str × V)} {f : Str} {v : V} {A : Around} {E : Value → Shared → Prop}

theorem Inv.made (I : Inv X pins σ H s) : Inv X pins σ (upd (upd H s.heap.objs.size (.own (s.heap.objs.size + 1))) (s.heap.objs.size + 1) (.ins C s.heap.objs.size []))
    { s with heap := (s.heap.push PySem.W.emptyDict).push (PySem.W.instObj C s.heap.objs.size) } := by
  have e1 : (s.heap.push PySem.W.emptyDict).get? s.heap.objs.size = some PySem.W.emptyDict := Heap.get?_push_size s.heap rfl
  have e2 : ((s.heap.push PySem.W.emptyDict).push (PySem.W.instObj C s.heap.objs.size)).get? (s.heap.objs.size + 1) = some (PySem.W.instObj C s.heap.objs.size) := by
    have := Heap.get?_push_size (s.heap.push PySem.W.emptyDict) (o := PySem.W.instObj C s.heap.objs.size) rfl
    rwa [Heap.size_push] at this
  have e3 : (s.heap.push PySem.W.emptyDict).Ns s.heap.objs.size (fun _ => none) := ⟨PySem.W.emptyDict, #[], _, e1, rfl, (fun e he => absurd he (by simp)), fun _ => rfl⟩
  have I1 := I.laid (a := s.heap.objs.size) (o := .own (s.heap.objs.size + 1)) (h' := s.heap.push PySem.W.emptyDict) (t' := s.toks) (fun b u q => Heap.get?_push_of_some _ q) (Nat.le_refl _) ⟨_, e1⟩
  refine I1.laid (a := s.heap.objs.size + 1) (o := .ins C s.heap.objs.size []) (t' := s.toks) (fun b u q => Heap.get?_push_of_some _ q) (Nat.le_of_eq (Heap.size_push _ _)) ?_
  have ne : s.heap.objs.size ≠ s.heap.objs.size + 1 := Nat.ne_of_lt (Nat.lt_succ_self _)
  refine ⟨by rw [upd_ne ne, upd_same], Nat.zero_le _, ne, e2, fun _ => none, (Heap.Ns1.of_empty e3).at fun o q => Heap.get?_push_of_some _ q, fun _ => True.intro, fun y hy => absurd rfl hy⟩

end

def tFld (K : PySem.W.Frag) (ta : TE) (f : Str) : TE := fun σ H Q => ta σ H fun x H1 => ∃ a C dx fs v, x = .ref a ∧ H1 a = some (.ins C dx fs) ∧ Cls K C ∧ NoAttr K C f ∧ fs.lookup f = some v ∧ Q v H1
def tCon (K : PySem.W.Frag) (ta : TE) (f : Str) : TE := fun σ H Q => ta σ H fun x H1 => ∃ a C dx fs v u, x = .ref a ∧ H1 a = some (.ins C dx fs) ∧ Cls K C ∧ Con K C f v u ∧ fs.lookup f = none ∧ Q v H1
def sFld (K : PySem.W.Frag) (ta tv : TE) (f : Str) : TS := fun D σ H => tv σ H fun y H1 => ta σ H1 fun x H2 => ∃ a C dx fs, x = .ref a ∧ H2 a = some (.ins C dx fs) ∧ Cls K C ∧ NoAttr K C f ∧ fs.length < 1000 ∧
  D.nx σ (upd H2 a (.ins C dx (putF f y fs)))
def InOp (X : Cx) (op : Operator) (rd : V → V → Hp → VK → Prop) : Prop :=
  ∀ (pins : List (Addr × Obj)) (s : Shared) (σ : St) (H : Hp) (x y : V) (u v : Value) (Q : VK), Inv X pins σ H s → RelV x u → RelV y v → rd x y H Q → wpAny (model X.prog X.w) X.A (inplaceOp op u v) (EP X pins σ Q) X.xe s
def sFldAug (K : PySem.W.Frag) (ta tv : TE) (rd : V → V → Hp → VK → Prop) (f : Str) : TS := fun D σ H => ta σ H fun x H1 => ∃ a C dx fs v, x = .ref a ∧ H1 a = some (.ins C dx fs) ∧ Cls K C ∧ NoAttr K C f ∧ fs.lookup f = some v ∧
  tv σ H1 fun y H2 => rd v y H2 fun z H3 => ∃ dx' fs', H3 a = some (.ins C dx' fs') ∧ fs'.length < 1000 ∧ D.nx σ (upd H3 a (.ins C dx' (putF f z fs')))

section
variable {X : Cx} {o e value : Expr} {f : Str} {pos pos' tpos : Pos} {ta tv : TE}
def rAdd : V → V → Hp → VK → Prop := fun x y H Q => ∃ i j, x = .int i ∧ y = .int j ∧ Q (.int (i + j)) H
def rSub : V → V → Hp → VK → Prop := fun x y H Q => ∃ i j, x = .int i ∧ y = .int j ∧ Q (.int (i - j)) H
end

section
variable {X : Cx} {pins : List (Addr × Obj)} {σ : St} {H : Hp} {s : Shared} {A : Around} {E : Value → Shared → Prop} {Q : Value → Shared → Prop} {c : Value} {b : Bool}
inductive TyOf (K : PySem.W.Frag) (H : Hp) : V → Value → Prop where
  | non : TyOf K H .non (.type "NoneType")
  | bl (x : Bool) : TyOf K H (.bl x) (.type "bool")
  | int (i : Int) : TyOf K H (.int i) (.type "int")
  | str (x : Str) : TyOf K H (.str x) (.type "str")
  | flt (x : UInt64) : TyOf K H (.flt x) (.type "float")
  | lst {a : Addr} {xs : List V} (e : H a = some (.lst xs)) : TyOf K H (.ref a) (.type "list")
  | frz {a : Addr} {o : Obj} {xs : List V} (e : H a = some (.frz o (.lst xs))) : TyOf K H (.ref a) (.type "list")
  | tup {a : Addr} {xs : List V} (e : H a = some (.tup xs)) : TyOf K H (.ref a) (.type "tuple")
  | dK {a : Addr} {kvs : List (Key × V)} (e : H a = some (.dK kvs)) : TyOf K H (.ref a) (.type "dict")
  | dT {a : Addr} {kvs : List (List Key × V)} (e : H a = some (.dT kvs)) : TyOf K H (.ref a) (.type "dict")
  | ins {a C dx : Addr} {fs : List (Str × V)} (e : H a = some (.ins C dx fs)) (cl : Cls K C) (ha : PySem.W.findIn K (.ref C) "__class__" = some (some (.builtin "object.__class__")))
      (hn : PySem.W.specialIn K (.builtin "object.__class__") "__get__" = some (some (.builtin "getset_descriptor.__get__"))) (htk : PySem.W.takesIn K (.builtin "object.__class__") = some true)
      (hm : PySem.W.mroIn K C (.type "object") = some true) : TyOf K H (.ref a) (.ref C)
theorem isinst_ok {x : V} {u t : Value} (I : Inv X pins σ H s) (rx : RelV x u) (ty : TyOf X.K H x t) (e : PySem.W.kitOne X.K t c = some b) (h : ∀ tk, Q (.bool b) { s with toks := tk }) :
    wpAny (model X.prog X.w) A (call (.builtin "isinstance") [u, c]) Q E s := by
  cases ty with
  | non => cases (show u = Value.none from rx); exact PySem.W.kia_one PySem.W.kitx_none I.kIn True.intro e (fun z => nomatch z) h
  | bl y => cases (show u = Value.bool y from rx); exact PySem.W.kia_one PySem.W.kitx_bool I.kIn True.intro e (fun z => nomatch z) h
  | int i => obtain ⟨t, q⟩ := (show ∃ t, u = Value.int i t from rx); cases q; exact PySem.W.kia_one PySem.W.kitx_int I.kIn True.intro e (fun z => nomatch z) h
  | str y => obtain ⟨t, q⟩ := (show ∃ t, u = Value.str y t from rx); cases q; exact PySem.W.kia_one PySem.W.kitx_str I.kIn True.intro e (fun z => nomatch z) h
  | flt y => obtain ⟨t, q⟩ := (show ∃ t, u = Value.float y t from rx); cases q; exact PySem.W.kia_one PySem.W.kitx_float I.kIn True.intro e (fun z => nomatch z) h
  | @lst a xs ea =>
    cases (show u = Value.ref a from rx)
    obtain ⟨_, _, n, _, h1⟩ := (show ObjOk X.prog X.w H s.heap a (.lst xs) from I.hok a _ ea)
    exact PySem.W.kia_one PySem.W.kitx_list I.kIn ⟨_, h1, rfl⟩ e (fun z => nomatch z) h
  | @frz a ob xs ea =>
    cases (show u = Value.ref a from rx)
    obtain ⟨_, _, _, n, _, h1⟩ := (show ObjOk X.prog X.w H s.heap a (.frz ob (.lst xs)) from I.hok a _ ea)
    exact PySem.W.kia_one PySem.W.kitx_list I.kIn ⟨_, h1, rfl⟩ e (fun z => nomatch z) h
  | @tup a xs ea =>
    cases (show u = Value.ref a from rx)
    obtain ⟨_, _, _, p⟩ := (show ObjOk X.prog X.w H s.heap a (.tup xs) from I.hok a _ ea)
    obtain ⟨o, h1, h2, _⟩ := p
    exact PySem.W.kia_one PySem.W.kitx_tuple I.kIn ⟨o, h1, h2⟩ e (fun z => nomatch z) h
  | @dK a kvs ea =>
    cases (show u = Value.ref a from rx)
    obtain ⟨_, _, vs, _, p⟩ := (show ObjOk X.prog X.w H s.heap a (.dK kvs) from I.hok a _ ea)
    obtain ⟨o, es, ep, h1, h2, _⟩ := p
    exact PySem.W.kia_one PySem.W.kitx_dict I.kIn ⟨o, h1, h2.1⟩ e (fun z => nomatch z) h
  | @dT a kvs ea =>
    cases (show u = Value.ref a from rx)
    obtain ⟨_, _, xs, _, o, es, ep, h1, h2, _⟩ := (show ObjOk X.prog X.w H s.heap a (.dT kvs) from I.hok a _ ea)
    exact PySem.W.kia_one PySem.W.kitx_dict I.kIn ⟨o, h1, h2.1⟩ e (fun z => nomatch z) h
  | @ins a C dx fs ea cl ha hn htk hm =>
    cases (show u = Value.ref a from rx)
    obtain ⟨mA, O, _⟩ := ins_get I.hok ea
    obtain ⟨od, J, _⟩ := O.look
    exact PySem.W.kia_one (PySem.W.kitx_own (cl.get _) cl.hd ha hn htk hm) I.kIn J e (fun z => nomatch z) h
end
end L2

namespace L2
open PySem PySem.Spec PyProof.Rows

structure Room (k : Nat) (A : Around) : Prop where
  hd : A.handled = none
  dp : A.depth + 3 * k + 5 < recursionLimit
  un : A.units + 16 * k + 200 < cLine
theorem Room.mono {j k : Nat} {A : Around} (r : Room k A) (h : j ≤ k) : Room j A := ⟨r.hd, by have := r.dp; omega, by have := r.un; omega⟩
theorem Room.deeper {k : Nat} {A : Around} (r : Room (k + 1) A) (env : Env) : Room k (A.deeper env) :=
  ⟨r.hd, by have := r.dp; show A.depth + 1 + 3 * k + 5 < _; omega, by have := r.un; show A.units + 3 + 16 * k + 200 < _; omega⟩
theorem Room.in1 {k : Nat} {A : Around} (r : Room (k + 1) A) : Room k A.in1 :=
  ⟨r.hd, by have := r.dp; show A.depth + 3 * k + 5 < _; omega, by have := r.un; show A.units + 1 + 16 * k + 200 < _; omega⟩
theorem make_depth {A : Around} {C : Addr} {us : List Value} {kw : List (Str × Value)} : (A.under (.builtin "type.__call__" ⟨.ref C :: us, kw⟩)).depth = A.depth + 1 := by
  first | rfl | simp [Around.under, Code.weight, Code.isCreation, Code.isGuard, Code.isCaller, Code.frames, Code.isFrame, guardIds]
theorem make_units {A : Around} {C : Addr} {us : List Value} {kw : List (Str × Value)} : (A.under (.builtin "type.__call__" ⟨.ref C :: us, kw⟩)).units = A.units + 1 := by
  first | rfl | simp [Around.under, Code.cUnits, Code.frames, Code.isFrame]
theorem Room.make {k : Nat} {A : Around} (r : Room (k + 1) A) (C : Addr) (us : List Value) (kw : List (Str × Value)) : Room k (A.under (.builtin "type.__call__" ⟨.ref C :: us, kw⟩)) :=
  ⟨r.hd, by have := r.dp; rw [make_depth]; omega, by have := r.un; rw [make_units]; omega⟩
theorem Room.depth {k : Nat} {A : Around} (r : Room k A) : A.depth < recursionLimit := by have := r.dp; omega
theorem Room.units {k : Nat} {A : Around} (r : Room k A) : A.units + 64 < cLine := by have := r.un; omega
theorem Room.units0 {k : Nat} {A : Around} (r : Room k A) : A.units < cLine := by have := r.un; omega

def tNil : TA := fun _ H Q => Q [] H
def tCons (ta : TE) (tr : TA) : TA := fun σ H Q => ta σ H fun x H1 => tr σ H1 fun xs H2 => Q (x :: xs) H2
section
variable {X : Cx} {e : Expr} {es : List Expr} {te : TE} {t : TA} {pos : Pos}
theorem pa_nil : PA X [] tNil := fun _ _ _ _ H Q I h => Calls.spliced_nil ⟨[], H, I, .nil, h⟩
theorem pa_cons (ha : PE X e te) (hr : PA X es t) (hs : starEach (e :: es) X.env = (false, eval e X.env) :: starEach es X.env := by rfl) : PA X (e :: es) (tCons te t) := by
  intro pos pins s σ H Q I h
  rw [hs]
  show wpAny _ _ (spliced ((false, eval e X.env) :: backTo pos (starEach es X.env))) _ _ s
  refine Calls.spliced_cons (thn (ha pins s σ H _ I h) fun u s1 ⟨x, H1, I1, r1, q1⟩ => ?_)
  exact thn (hr pos pins s1 σ H1 _ I1 q1) fun us s2 ⟨xs, H2, I2, r2, q2⟩ => ⟨x :: xs, H2, I2, .cons r1 r2, q2⟩

def tTup (t : TA) : TE := fun σ H Q => t σ H fun xs H1 => xs.length ≤ sizeLine ∧ ∀ p, H1 p = none → Q (.ref p) (upd H1 p (.tup xs))
def tLst (t : TA) : TE := fun σ H Q => t σ H fun xs H1 => xs.length ≤ sizeLine ∧ ∀ p, H1 p = none → Q (.ref p) (upd H1 p (.lst xs))
theorem pe_lst (h : PA X es t) : PE X (.List es pos) (tLst t) := by
  intro pins s σ H Q I hq
  refine wpAny_List_spliced (thn (h pos pins s σ H _ I hq) fun us s1 ⟨xs, H1, I1, r, z, q⟩ => ⟨by rw [← r.length]; exact z, ?_⟩)
  have hf : H1 s1.heap.objs.size = none := I1.hok.fresh (Nat.le_refl _)
  refine ⟨.ref s1.heap.objs.size, upd H1 s1.heap.objs.size (.lst xs), I1.laid (t' := s1.toks) (fun b u e => Heap.get?_push_of_some _ e) (Nat.le_refl _) ?_, rfl, q _ hf⟩
  exact ⟨z, us, 0, r, Heap.get?_push_size _ rfl⟩
end

abbrev Sp := List V → Hp → VK → XK → Prop
abbrev CXT := List Env → Hp → Shared → XK → Value → Shared → Prop

structure Env0 (P : Program) (w : World) (K : PySem.W.Frag) (mg : Str → Option Value) (base : Heap) (A : Around) (outer : List Env) (s : Shared) (H : Hp) : Prop where
  frames : A.frames = some outer
  mod : Mod K mg base
  bs : ∀ b o, base.get? b = some o → s.heap.get? b = some o ∧ H b = none
  bsz : base.objs.size ≤ s.heap.objs.size
  funs : s.heap.FunFrames base outer
  frf : ∀ b ∈ frs outer, H b = none
  hok : HOk P w H s.heap
  bare : AllBare s.gens
def CE (outer : List Env) (P : Program) (w : World) (H : Hp) (s : Shared) (Q : VK) (u : Value) (s' : Shared) : Prop :=
  ∃ v H', s'.os = s.os ∧ AllBare s'.gens ∧ Un (frs outer) [] H H' s.heap s'.heap ∧ HOk P w H' s'.heap ∧ RelV v u ∧ Q v H'
def CR (CX : CXT) (outer : List Env) (P : Program) (w : World) (H : Hp) (s : Shared) (Q : VK) (E : XK) (r : Result) (s' : Shared) : Prop :=
  match r with
  | .ok (.ret u) => CE outer P w H s Q u s'
  | .ok _ => False
  | .error e => CX outer H s E e s'
structure FnOk (P : Program) (w : World) (K : PySem.W.Frag) (mg : Str → Option Value) (base : Heap) (CX : CXT) (k : Nat) (f : Addr) (fd : FuncData) (ps : List Str) (sp : Sp) : Prop where
  len : ∀ vs H Q E, sp vs H Q E → vs.length = ps.length
  run : ∀ (A : Around) (outer : List Env) (s : Shared) (H : Hp) (args : Args) (us : List Value) (vs : List V) (Q : VK) (E : XK), Room k A → Env0 P w K mg base A outer s H → BindsTo s fd args (ps.zip us) → Vals vs us → sp vs H Q E →
    codeAny (model P w) A (.call (.ref f) args) (CR CX outer P w H s Q E) s
theorem FnOk.mono {P : Program} {w : World} {K : PySem.W.Frag} {mg : Str → Option Value} {base : Heap} {CX : CXT} {j k : Nat} {f : Addr} {fd : FuncData} {ps : List Str} {sp : Sp} (F : FnOk P w K mg base CX j f fd ps sp) (h : j ≤ k) :
    FnOk P w K mg base CX k f fd ps sp := ⟨F.len, fun A outer s H args us vs Q E hr => F.run A outer s H args us vs Q E (hr.mono h)⟩
theorem FnOk.imp {P : Program} {w : World} {K : PySem.W.Frag} {mg : Str → Option Value} {base : Heap} {CX : CXT} {k : Nat} {f : Addr} {fd : FuncData} {ps : List Str} {sp sp' : Sp} (F : FnOk P w K mg base CX k f fd ps sp)
    (h : ∀ vs H Q E, sp' vs H Q E → sp vs H Q E) : FnOk P w K mg base CX k f fd ps sp' :=
  ⟨fun vs H Q E q => F.len vs H Q E (h _ _ _ _ q), fun A outer s H args us vs Q E hr he hb hv hs => F.run A outer s H args us vs Q E hr he hb hv (h _ _ _ _ hs)⟩

theorem Env0.make {P : Program} {w : World} {K : PySem.W.Frag} {mg : Str → Option Value} {base : Heap} {A : Around} {outer : List Env} {s : Shared} {H : Hp} (e : Env0 P w K mg base A outer s H) (C : Addr) (us : List Value) (kw : List (Str × Value)) :
    Env0 P w K mg base (A.under (.builtin "type.__call__" ⟨.ref C :: us, kw⟩)) outer s H := ⟨by first | exact e.frames | (simpa [Around.under, Code.envs, Code.isFrame, pushEnvs] using e.frames), e.mod, e.bs, e.bsz, e.funs, e.frf, e.hok, e.bare⟩
theorem Env0.in1 {P : Program} {w : World} {K : PySem.W.Frag} {mg : Str → Option Value} {base : Heap} {A : Around} {outer : List Env} {s : Shared} {H : Hp} (e : Env0 P w K mg base A outer s H) :
    Env0 P w K mg base A.in1 outer s H := ⟨e.frames, e.mod, e.bs, e.bsz, e.funs, e.frf, e.hok, e.bare⟩

section
variable {X : Cx} {pins : List (Addr × Obj)} {σ : St} {H : Hp} {s s' : Shared}
theorem Inv.env0 (I : Inv X pins σ H s) : Env0 X.prog X.w X.K X.mg X.base X.A X.stack s H :=
  ⟨I.ok.frames, I.ok.mod, I.bs, Nat.le_trans I.ok.bsz I.sz, I.stack, I.stkFree, I.hok, I.bare⟩
theorem Inv.after {Q : VK} {u : Value} (I : Inv X pins σ H s) (h : CE X.stack X.prog X.w H s Q u s') : EP X pins σ Q u s' := by
  obtain ⟨v, H', os, bare, un, hok, r, q⟩ := h
  obtain ⟨hh, g, d, t, os'⟩ := s'
  obtain rfl : os' = s.os := os
  exact ⟨v, H', I.call (h' := hh) (g' := g) (d' := d) (t' := t) (ch := []) un hok bare (fun b z => absurd z (by simp)), r, q⟩
end

def tCall (sp : Sp) (dvs : List V) (E : XK) (t : TA) : TE := fun σ H Q => t σ H fun vs H1 => sp (vs ++ dvs) H1 Q E
def tMeth (C : Addr) (m : Str) (sp : Sp) (dvs : List V) (E : XK) (ta : TE) (t : TA) : TE := fun σ H Q => ta σ H fun x H1 => ∃ a dx fs, x = .ref a ∧ H1 a = some (.ins C dx fs) ∧ fs.lookup m = none ∧
  t σ H1 fun vs H2 => sp (x :: (vs ++ dvs)) H2 Q E
def tMake (C : Addr) (sp : Sp) (dvs : List V) (E : XK) (t : TA) : TE := fun σ H Q => t σ H fun vs H1 => ∀ x dx, H1 x = none → H1 dx = none → dx ≠ x →
  sp (.ref x :: (vs ++ dvs)) (upd (upd H1 dx (.own x)) x (.ins C dx [])) (fun v H2 => v = .non ∧ Q (.ref x) H2) E

def Binds (K : PySem.W.Frag) (fd : FuncData) (ps : List Str) (ds : List Value) : Prop :=
  ∀ (s : Shared) (us : List Value), K.In s.heap → (us ++ ds).length = ps.length → BindsTo s fd ⟨us, []⟩ (ps.zip (us ++ ds))
theorem Binds.all {K : PySem.W.Frag} {fd : FuncData} {ps : List Str} (h : ∀ us : List Value, us.length = ps.length → bindArgs fd ⟨us, []⟩ = pure (ps.zip us)) : Binds K fd ps [] := fun s us _ hl => by
  rw [List.append_nil] at hl ⊢
  exact .of_eq (h us hl)

def Passes (CX : CXT) (X : Cx) (E : XK) : Prop := ∀ (pins : List (Addr × Obj)) (σ : St) (H : Hp) (s : Shared) (e : Value) (s' : Shared), Inv X pins σ H s → CX X.stack H s E e s' → X.xe e s'

section
variable {X : Cx} {CX : CXT} {k : Nat} {f C : Addr} {fd : FuncData} {ps : List Str} {sp : Sp} {dvs : List V} {ds : List Value} {E : XK} {x m : Str} {p pos apos : Pos} {e o : Expr} {es : List Expr} {ta : TE} {t : TA}

theorem run_fn {pins : List (Addr × Obj)} {σ : St} {H : Hp} {s : Shared} {Q : VK} {us : List Value} {vs : List V} (F : FnOk X.prog X.w X.K X.mg X.base CX k f fd ps sp) (hr : Room k X.A) (hb : Binds X.K fd ps ds) (hd : Vals dvs ds) (hx : Passes CX X E)
    (I : Inv X pins σ H s) (r : Vals vs us) (h : sp (vs ++ dvs) H Q E) : wpAny (model X.prog X.w) X.A (call (.ref f) us) (EP X pins σ Q) X.xe s := by
  have r2 : Vals (vs ++ dvs) (us ++ ds) := r.append hd
  have hl : (us ++ ds).length = ps.length := by rw [← r2.length]; exact F.len _ _ _ _ h
  refine wpAny_call (codeAny_mono (F.run X.A X.stack s H ⟨us, []⟩ (us ++ ds) (vs ++ dvs) Q E hr I.env0 (hb s us I.kIn hl) r2 h) fun r s' hq => ?_)
  cases r with
  | error e => exact hx pins σ H s e s' I hq
  | ok fl =>
    cases fl with
    | ret u => exact I.after hq
    | next => exact False.elim hq
    | brk => exact False.elim hq
    | cont => exact False.elim hq

theorem pe_call (F : FnOk X.prog X.w X.K X.mg X.base CX k f fd ps sp) (hr : Room k X.A) (hg : Gl X x) (hm : X.mg x = some (.ref f)) (hk : PySem.W.keepIn X.K (.ref f) = true) (hb : Binds X.K fd ps ds) (hd : Vals dvs ds) (hx : Passes CX X E)
    (ha : PA X (e :: es) t) (hdb : (x == ("__debug__" : Str)) = false := by decide) (he : starEach (e :: es) X.env = (false, eval e X.env) :: starEach es X.env := by rfl) (hpl : (backTo pos (starEach es X.env)).any (·.1) = false := by rfl) :
    PE X (.Call (.Name x p) (e :: es) [] pos) (tCall sp dvs E t) := by
  intro pins s σ H Q I h
  refine wpAny_Call_Name_kw (ld_glob I hg hm ?_ hdb)
  refine PySem.W.callWith_K (h₀ := X.base) I.ok.mod.kin hk (thn (ha pos pins s σ H _ I h) fun us s1 ⟨vs, H1, I1, r, q⟩ => ⟨I1.kIn, ?_⟩) he hpl
  exact run_fn F hr hb hd hx I1 r q
structure Mk (K : PySem.W.Frag) (C f : Addr) : Prop where
  makes : PySem.W.makesIn K C = true
  init : PySem.W.findIn K (.ref C) "__init__" = some (some (.ref f))
  fn : PySem.W.isFn K (.ref f) = true
  kp : PySem.W.keepIn K (.ref C) = true

end

def PK (X : Cx) (kws : List Keyword) (t : TA) : Prop :=
  ∀ (pos : Pos) (pins : List (Addr × Obj)) (s : Shared) (σ : St) (H : Hp) (Q : List V → Hp → Prop), Inv X pins σ H s → t σ H Q → wpAny (model X.prog X.w) X.A (evalAll ((backToKw pos (keywordEach kws X.env)).map (·.2))) (AP X pins σ Q) X.xe s
section
variable {X : Cx} {CX : CXT} {k : Nat} {f C : Addr} {fd : FuncData} {ps ks : List Str} {sp : Sp} {E : XK} {x m : Str} {p pos apos kpos : Pos} {e o : Expr} {es : List Expr} {kws : List Keyword} {te ta : TE} {t tk : TA} {nm : Option Str}
structure KBinds (K : PySem.W.Frag) (fd : FuncData) (ps ks : List Str) (g : List Value → List Value → List Value) (gV : List V → List V → List V) : Prop where
  to : ∀ (s : Shared) (us ws : List Value), K.In s.heap → (g us ws).length = ps.length → BindsTo s fd ⟨us, ks.zip ws⟩ (ps.zip (g us ws))
  rel : ∀ {vs : List V} {us : List Value} {zs : List V} {ws : List Value}, Vals vs us → Vals zs ws → Vals (gV vs zs) (g us ws)
def tCallK (sp : Sp) (gV : List V → List V → List V) (E : XK) (t tk : TA) : TE := fun σ H Q => t σ H fun vs H1 => tk σ H1 fun zs H2 => sp (gV vs zs) H2 Q E
variable {g : List Value → List Value → List Value} {gV : List V → List V → List V}
end

structure FnScope (N P : List Str) (sc : Scope) : Prop where
  kind : sc.kind = .function
  co : sc.isCoroutine = false
  gen : sc.isGenerator = false
  nd : N.Nodup
  pre : N.take P.length = P
  par : ∀ x ∈ P, sc.names.lookup x = some .local ∨ sc.names.lookup x = some .cell
  nofree : ∀ y ∈ sc.names, y.2 ≠ .free

theorem bindL_out {kindOf : Str → Option NameKind} {x : Str} : ∀ {binds : List (Str × Value)} {m : Str → Option Value}, (∀ v, (x, v) ∉ binds) → bindL kindOf binds m x = m x
  | [], _, _ => rfl
  | (n, v) :: r, m, h => by
    unfold bindL
    rw [bindL_out fun w hw => h w (List.mem_cons_of_mem _ hw)]
    split
    · have : x ≠ n := by rintro rfl; exact h v List.mem_cons_self
      simp [this]
    · rfl
theorem bindC_out {kindOf : Str → Option NameKind} {x : Str} : ∀ {binds : List (Str × Value)} {m : Str → Option Value}, (∀ v, (x, v) ∉ binds) → bindC kindOf binds m x = m x
  | [], _, _ => rfl
  | (n, v) :: r, m, h => by
    unfold bindC
    rw [bindC_out fun w hw => h w (List.mem_cons_of_mem _ hw)]
    split
    · rfl
    · have : x ≠ n := by rintro rfl; exact h v List.mem_cons_self
      simp [this]
theorem bindL_get {kindOf : Str → Option NameKind} {x : Str} {v : Value} : ∀ {P : List Str} {vs : List Value} {i : Nat} {m : Str → Option Value}, P.Nodup → P[i]? = some x → vs[i]? = some v → kindOf x = some .local →
    bindL kindOf (P.zip vs) m x = some v
  | [], _, _, _, _, h, _, _ => by simp at h
  | _ :: _, [], _, _, _, _, h, _ => by simp at h
  | p :: P, w :: vs, 0, m, nd, h1, h2, hk => by
    simp at h1 h2; subst h1; subst h2
    show bindL kindOf ((p, w) :: P.zip vs) m p = _
    unfold bindL
    rw [bindL_out fun v hv => (List.nodup_cons.mp nd).1 (List.of_mem_zip hv).1, if_pos hk]
    simp
  | p :: P, w :: vs, i + 1, m, nd, h1, h2, hk => by
    show bindL kindOf ((p, w) :: P.zip vs) m x = _
    unfold bindL
    exact bindL_get (i := i) (List.nodup_cons.mp nd).2 (by simpa using h1) (by simpa using h2) hk
theorem bindC_get {kindOf : Str → Option NameKind} {x : Str} {v : Value} : ∀ {P : List Str} {vs : List Value} {i : Nat} {m : Str → Option Value}, P.Nodup → P[i]? = some x → vs[i]? = some v → kindOf x ≠ some .local →
    bindC kindOf (P.zip vs) m x = some v
  | [], _, _, _, _, h, _, _ => by simp at h
  | _ :: _, [], _, _, _, _, h, _ => by simp at h
  | p :: P, w :: vs, 0, m, nd, h1, h2, hk => by
    simp at h1 h2; subst h1; subst h2
    show bindC kindOf ((p, w) :: P.zip vs) m p = _
    unfold bindC
    rw [bindC_out fun v hv => (List.nodup_cons.mp nd).1 (List.of_mem_zip hv).1, if_neg hk]
    simp
  | p :: P, w :: vs, i + 1, m, nd, h1, h2, hk => by
    show bindC kindOf ((p, w) :: P.zip vs) m x = _
    unfold bindC
    exact bindC_get (i := i) (List.nodup_cons.mp nd).2 (by simpa using h1) (by simpa using h2) hk

def start (N : List Str) (vs : List V) : St := vs.map some ++ List.replicate (N.length - vs.length) none

def cxOf (CX : CXT) (P : Program) (w : World) (K : PySem.W.Frag) (mg : Str → Option Value) (base : Heap) (N : List Str) (qual : Str) (scope : Scope) (f : Addr) (cd : Value) (A : Around) (outer : List Env) (s : Shared) (H : Hp) (E : XK) : Cx where
  prog := P
  w := w
  K := K
  mg := mg
  base := base
  A := A.deeper (envOfC qual scope s.heap.objs.size f cd)
  N := N
  s₀ := s
  H₀ := H
  env := envOfC qual scope s.heap.objs.size f cd
  outer := outer
  stack := envOfC qual scope s.heap.objs.size f cd :: outer
  ex := []
  calm := true
  fn := fun _ => true
  pn := []
  xe := fun e s' => wpAny (model P w) (A.deeper (envOfC qual scope s.heap.objs.size f cd)) (leaving (envOfC qual scope s.heap.objs.size f cd) e) (fun _ s'' => CX outer H s E e s'') (fun e' s'' => CX outer H s E e' s'') s'

theorem cell_has {sc : Scope} {n : Nat} {x : Str} (h : sc.names.lookup x = some .cell) : ∃ c, (cellsFrom n sc.names []).lookup x = some c := by
  have q := PySem.W.cellsFrom_some sc.names n [] (.inl h)
  exact Option.isSome_iff_exists.mp q

theorem inv_start {CX : CXT} {P : Program} {w : World} {K : PySem.W.Frag} {mg : Str → Option Value} {base : Heap} {N ps : List Str} {qual : Str} {scope : Scope} {f : Addr} {cd : Value} {A : Around} {outer : List Env} {s s1 : Shared} {H : Hp} {E : XK} {us : List Value} {vs : List V}
    (S : FnScope N ps scope) (hd : A.handled = none) (e0 : Env0 P w K mg base A outer s H) (hl : vs.length = ps.length) (r : Vals vs us)
    (x : InCallC s s.heap.objs.size (bindL (envOfC qual scope s.heap.objs.size f cd).kindOf (ps.zip us) fun _ => none) (cellsFrom (s.heap.objs.size + 1) scope.names []) (bindC (envOfC qual scope s.heap.objs.size f cd).kindOf (ps.zip us) fun _ => none) s1) :
    Inv (cxOf CX P w K mg base N qual scope f cd A outer s H E) [] (start N vs) H s1 := by
  have hpl : ps.length ≤ N.length := by have := congrArg List.length S.pre; rw [List.length_take] at this; omega
  obtain ⟨h1, tk, rfl, hk⟩ := x.done
  have noA : ∀ b : Addr, b ∉ (cxOf CX P w K mg base N qual scope f cd A outer s H E).ex := fun b z => absurd (show b ∈ ([] : List Addr) from z) (by simp)
  refine ⟨⟨e0.mod, S.kind, rfl, rfl, Nat.le_refl _, fun y z c h1 h2 => ?_, fun y hy => ?_, fun y c _ h => ?_, fun _ => hd, Around.frames_deeper e0.frames, .inr ⟨rfl, rfl⟩, fun b z => absurd z (noA b), e0.bs, e0.bsz, fun b _ _ => noA b, fun b z => absurd z (noA b), e0.funs, e0.frf⟩,
    rfl, e0.bare, Un.kept hk, ⟨_, x.toInCall.ns, fun i y v h1 h2 h3 => ?_⟩, fun y c h => ⟨_, x.cell y c h⟩, e0.hok.fresh (Nat.le_refl _), fun y c h => ?_, fun p hp => absurd (show p ∈ ([] : List (Addr × Obj)) from hp) (by simp), e0.hok.kept hk, ?_⟩
  · exact name_of_addr x.apart (PySem.mem_of_lookup h1) (PySem.mem_of_lookup h2)
  · have hy : scope.names.lookup y = some .cell ∨ scope.names.lookup y = some .free := hy
    rcases hy with hy | hy
    · exact cell_has hy
    · exact absurd rfl (S.nofree _ (PySem.mem_of_lookup hy))
  · exact Nat.le_of_lt (x.above y c (PySem.mem_of_lookup h))
  · have hi : i < vs.length := by
      unfold start at h2
      by_cases hi : i < vs.length
      · exact hi
      · rw [List.getElem?_append_right (by simpa using hi)] at h2
        rw [List.getElem?_replicate] at h2
        split at h2 <;> cases h2
    have ha : vs[i]? = some v := by
      unfold start at h2
      rw [List.getElem?_append_left (by simpa using hi), List.getElem?_map] at h2
      cases e : vs[i]? with
      | none => rw [e] at h2; cases h2
      | some a => rw [e] at h2; cases h2; rfl
    obtain ⟨u, hu, rv⟩ := r.get ha
    have hp : ps[i]? = some y := by
      rw [← S.pre, List.getElem?_take_of_lt (by omega)]; exact h1
    have ndP : ps.Nodup := by rw [← S.pre]; exact S.nd.sublist (List.take_sublist _ _)
    refine ⟨u, rv, ?_⟩
    rcases S.par y (List.mem_of_getElem? hp) with k | k
    · exact .inl ⟨k, bindL_get ndP hp hu k⟩
    · obtain ⟨c, e⟩ := cell_has (n := s.heap.objs.size + 1) k
      refine .inr ⟨.inl k, c, e, ?_⟩
      have q := x.cell y c e
      rw [bindC_get ndP hp hu (by show scope.names.lookup y ≠ _; rw [k]; decide)] at q
      exact q
  · exact e0.hok.fresh (Nat.le_of_lt (x.above y c (PySem.mem_of_lookup h)))
  · unfold start
    show _ = N.length
    rw [List.length_append, List.length_map, List.length_replicate]
    omega

theorem fn_of {CX : CXT} {P : Program} {w : World} {K : PySem.W.Frag} {mg : Str → Option Value} {base : Heap} {k : Nat} {f : Addr} {name qual : Str} {params : Arguments} {body : List Stmt} {scope : Scope} {dV kV doc pm cdv ct oc : Value} {an od : Option Addr}
    {osl : Array (Option Value)} {N ps : List Str} {sp : Sp} (lk : K.lookup f = some ⟨oc, od, .func (PySem.W.fnOf name qual params body scope dV kV doc pm an cdv ct), osl⟩) (hcd : PySem.W.codeIn K cdv qual = true) (S : FnScope N ps scope)
    (len : ∀ vs H Q E, sp vs H Q E → vs.length = ps.length)
    (hbody : ∀ (A : Around) (outer : List Env) (s : Shared) (H : Hp) (vs : List V) (Q : VK) (E : XK), Room k (A.deeper (envOfC qual scope s.heap.objs.size f cdv)) → sp vs H Q E →
      ∃ t, PSs (cxOf CX P w K mg base N qual scope f cdv A outer s H E) body t ∧ t { nx := fun _ H' => Q .non H', rt := Q } (start N vs) H) :
    FnOk P w K mg base CX (k + 1) f (PySem.W.fnOf name qual params body scope dV kV doc pm an cdv ct) ps sp := by
  refine ⟨len, fun A outer s H args us vs Q E hr e0 hb r hsp => ?_⟩
  have hl := len _ _ _ _ hsp
  have KX : K.In s.heap := e0.mod.kin.keeps fun b o e => (e0.bs b o e).1
  have lim : s.heap.NoLimit := e0.mod.nolimit.keeps fun b o e => (e0.bs b o e).1
  have hkind : ∀ y ∈ ps.zip us, scope.names.lookup y.1 = some .local ∨ (scope.names.lookup y.1 = some .cell ∧ ((cellsFrom (s.heap.objs.size + 1) scope.names []).lookup y.1).isSome = true) := fun ⟨n, v⟩ hy => by
    rcases S.par n (List.of_mem_zip hy).1 with q | q
    · exact .inl q
    · exact .inr ⟨q, PySem.W.cellsFrom_some _ _ _ (.inl q)⟩
  refine codeAny_call_function hr.depth (KX _ _ lk) rfl S.co S.gen rfl (PySem.W.codeRec_of KX hcd) (hb _ _ _ _ ?_)
  refine wpAny_newFunctionEnv_cells S.kind hkind fun env he s1 x => ?_
  subst he
  refine ⟨lim.keeps x.toInCall.keep, codeAny_func ?_⟩
  obtain ⟨t, ht, hq⟩ := hbody A outer s H vs Q E (hr.deeper _) hsp
  have I : Inv (cxOf CX P w K mg base N qual scope f cdv A outer s H E) [] (start N vs) H s1 := inv_start S hr.hd e0 hl r x
  refine wpAny_mono (ht [] s1 (start N vs) H _ I hq) (fun fl s' hs => ?_) fun e s' hs => hs
  have fin : ∀ {σ' : St} {H' : Hp} {v : V} {u : Value}, Inv (cxOf CX P w K mg base N qual scope f cdv A outer s H E) [] σ' H' s' → RelV v u → Q v H' → CE outer P w H s Q u s' :=
    fun {σ' H' v u} J rv q => ⟨v, H', J.os, J.bare, J.base, J.hok, rv, q⟩
  cases fl with
  | ret u =>
    obtain ⟨v, σ', H', J, rv, q⟩ := hs
    exact fin J rv q
  | next =>
    obtain ⟨σ', H', J, q⟩ := hs
    exact fin (v := V.non) (u := Value.none) J rfl q
  | brk =>
    obtain ⟨_, _, _, q⟩ := hs
    exact False.elim q
  | cont =>
    obtain ⟨_, _, _, q⟩ := hs
    exact False.elim q
end L2

namespace L2
open PySem PySem.Spec PyProof.Rows
section
variable {X : Cx} {x : Str} {p pos : Pos} {e : Expr} {es : List Expr} {t : TA} {id T : String} {r : List V → Hp → VK → Prop}

def tCB (r : List V → Hp → VK → Prop) (t : TA) : TE := fun σ H Q => t σ H fun vs H1 => r vs H1 Q
theorem pe_callB (hc : CallR X (.builtin id) r) (hg : Gl X x) (hm : X.mg x = none) (hv : bootBuiltins x = some (.builtin id)) (ha : PA X (e :: es) t) (hn : x ≠ "__name__" := by decide) (hdb : (x == ("__debug__" : Str)) = false := by decide)
    (he : starEach (e :: es) X.env = (false, eval e X.env) :: starEach es X.env := by rfl) (hpl : (backTo pos (starEach es X.env)).any (·.1) = false := by rfl) : PE X (.Call (.Name x p) (e :: es) [] pos) (tCB r t) := by
  intro pins s σ H Q I h
  refine wpAny_Call_Name_kw (ld_blt I hg hm hv ?_ hn hdb)
  exact PyProof.Rows.callWith_builtin1 (thn (ha pos pins s σ H _ I h) fun us s1 ⟨vs, H1, I1, r1, q1⟩ => hc pins s1 σ H1 vs us Q I1 r1 q1) he hpl
end
end L2

namespace HT
open PySem PyProof.Rows

def lexLt : List Int → List Int → Bool
  | [], [] => false
  | [], _ :: _ => true
  | _ :: _, [] => false
  | x :: xs, y :: ys => if x = y then lexLt xs ys else decide (x < y)
section
open PySem.SeqAt
open PySem.AutoSeq1 (wpAny_loadPart')
open PySem.MeetsSeq PySem.MeetsSeq2 PySem.MeetsSeq3

end

section
variable {prog : Program} {w : World} {A : Around} {E : Value → Shared → Prop} {s : Shared}

def sIx (n d : Nat) : Option Int → Nat
  | none => d
  | some v => if v < 0 then (v + (n : Int)).toNat else min v.toNat n
theorem sIx_none (n d : Nat) : sIx n d none = d := rfl
theorem sIx_nat (n d k : Nat) : sIx n d (some (k : Int)) = min k n := by
  show (if (k : Int) < 0 then ((k : Int) + (n : Int)).toNat else min (k : Int).toNat n) = min k n
  rw [if_neg (by omega), Int.toNat_natCast]
theorem sIx_le (n d : Nat) (hd : d ≤ n) (o : Option Int) : sIx n d o ≤ n := by
  cases o with
  | none => exact hd
  | some v =>
    show (if v < 0 then (v + (n : Int)).toNat else min v.toNat n) ≤ n
    by_cases hv : v < 0
    · rw [if_pos hv]; omega
    · rw [if_neg hv]; exact Nat.min_le_right _ _
end
end HT

namespace L2
open PySem PySem.Spec PyProof.Rows

abbrev TO := St → Hp → (Option Int → Hp → Prop) → Prop
def PO (X : Cx) (e : Option Expr) (t : TO) : Prop :=
  ∀ (pins : List (Addr × Obj)) (s : Shared) (σ : St) (H : Hp) (Q : Option Int → Hp → Prop), Inv X pins σ H s → t σ H Q →
    wpAny (model X.prog X.w) X.A (evalPart e X.env) (fun u s' => ∃ o H', Inv X pins σ H' s' ∧ IsPart u o ∧ Q o H') X.xe s
def tNoPart : TO := fun _ H Q => Q none H
def tPart (t : TE) : TO := fun σ H Q => t σ H fun x H1 => ∃ i, x = .int i ∧ Q (some i) H1

section
variable {X : Cx} {e : Expr} {te : TE} {lo hi : Option Expr} {tl th : TO} {pos p2 : Pos}

theorem po_none : PO X none tNoPart := by
  intro pins s σ H Q I h
  rw [evalPart_none]
  exact wpAny_pure ⟨none, H, I, .none, h⟩
theorem po_some (h : PE X e te) : PO X (some e) (tPart te) := by
  intro pins s σ H Q I hw
  rw [evalPart_some]
  refine thn (h pins s σ H _ I hw) fun u s1 ⟨x, H1, I1, r1, q1⟩ => ?_
  obtain ⟨i, rfl, q⟩ := q1
  obtain ⟨t, rfl⟩ := r1
  exact ⟨some i, H1, I1, .int i t, q⟩

def SlR (X : Cx) (r : V → Option Int → Option Int → Hp → VK → Prop) : Prop :=
  ∀ (pins : List (Addr × Obj)) (s : Shared) (σ : St) (H : Hp) (x : V) (v vl vu : Value) (lo hi : Option Int) (sl : Addr) (Q : VK), Inv X pins σ H s → RelV x v → s.heap.IsSliceOf sl vl vu .none → IsPart vl lo → IsPart vu hi → r x lo hi H Q →
    ∃ T id, typeLookup (.type T) "__getitem__" = pure (some (.builtin id)) ∧ s.TypeIs v T ∧ wpAny (model X.prog X.w) X.A (getItem v (.ref sl)) (EP X pins σ Q) X.xe s
theorem SlR.or {r r' : V → Option Int → Option Int → Hp → VK → Prop} (h : SlR X r) (h' : SlR X r') : SlR X (fun x lo hi H Q => r x lo hi H Q ∨ r' x lo hi H Q) := by
  intro pins s σ H x v vl vu lo hi sl Q I rx hs pl pu q
  rcases q with q | q
  · exact h pins s σ H x v vl vu lo hi sl Q I rx hs pl pu q
  · exact h' pins s σ H x v vl vu lo hi sl Q I rx hs pl pu q
def tSl (r : V → Option Int → Option Int → Hp → VK → Prop) (te : TE) (tl th : TO) : TE := fun σ H Q => te σ H fun x H1 => tl σ H1 fun l H2 => th σ H2 fun u H3 => r x l u H3 Q
theorem pe_slice {r : V → Option Int → Option Int → Hp → VK → Prop} (hr : SlR X r) (he : PE X e te) (hl : PO X lo tl) (hu : PO X hi th) : PE X (.Subscript e (.Slice lo hi none p2) pos) (tSl r te tl th) := by
  intro pins s σ H Q I h
  refine Subscript_ (thn (he pins s σ H _ I h) fun v s1 ⟨x, H1, I1, r1, q1⟩ => ?_)
  refine wpAny_Slice (thn (hl pins s1 σ H1 _ I1 q1) fun vl s2 ⟨l, H2, I2, pl, q2⟩ => thn (hu pins s2 σ H2 _ I2 q2) fun vu s3 ⟨u, H3, I3, pu, q3⟩ => ?_)
  rw [evalPart_none]
  refine wpAny_pure ?_
  have I4 : Inv X pins σ H3 { s3 with heap := s3.heap.push { cls := .type "slice", data := .fields #[vl, vu, .none] } } := I3.kept (t' := s3.toks) fun b ob q => Heap.get?_push_of_some _ q
  obtain ⟨T, id, hT, ht, hg⟩ := hr pins { s3 with heap := s3.heap.push { cls := .type "slice", data := .fields #[vl, vu, .none] } } σ H3 x v vl vu l u s3.heap.objs.size Q I4 r1 (Heap.IsSliceOf.new ..) pl pu q3
  show wpAny (model X.prog X.w) X.A (subscriptTail e (.Slice lo hi none p2) v (.ref s3.heap.objs.size)) (EP X pins σ Q) X.xe { s3 with heap := s3.heap.push { cls := .type "slice", data := .fields #[vl, vu, .none] } }
  exact tail_any (ops := [.ref s3.heap.objs.size, v]) ht hT hg (by with_unfolding_all rfl)

def cutV (xs : List V) (lo hi : Option Int) : List V := (xs.drop (HT.sIx xs.length 0 lo)).take (HT.sIx xs.length xs.length hi - HT.sIx xs.length 0 lo)
theorem cutV_length (xs : List V) (lo hi : Option Int) : (cutV xs lo hi).length ≤ xs.length := by
  unfold cutV
  rw [List.length_take, List.length_drop]
  omega
def rSlT (K : PySem.W.Frag) : V → Option Int → Option Int → Hp → VK → Prop := fun x lo hi H Q => ∃ a xs, x = .ref a ∧ SqT K H a xs ∧
  ¬ (HT.sIx xs.length 0 lo = 0 ∧ HT.sIx xs.length xs.length hi = xs.length) ∧ ∀ p, H p = none → Q (.ref p) (upd H p (.tup (cutV xs lo hi)))
def rLtT (K : PySem.W.Frag) : R2 := fun x y H Q => ∃ a b ns ms, x = .ref a ∧ y = .ref b ∧ SqT K H a (ns.map V.int) ∧ SqT K H b (ms.map V.int) ∧ Q (.bl (HT.lexLt ns ms)) H
def rCatT (K : PySem.W.Frag) : R2 := fun x y H Q => ∃ a b xs ys, x = .ref a ∧ y = .ref b ∧ SqT K H a xs ∧ SqT K H b ys ∧ xs ≠ [] ∧ xs.length + ys.length ≤ sizeLine ∧
  (ys = [] → Q (.ref a) H) ∧ (ys ≠ [] → ∀ p, H p = none → Q (.ref p) (upd H p (.tup (xs ++ ys))))
end
end L2

namespace L2
open PySem PySem.Spec PyProof.Rows

def ixN (n : Nat) (i : Int) : Option Nat := if 0 ≤ i then (if i < n then some i.toNat else none) else if -(n : Int) ≤ i then some (i + n).toNat else none
def atI {α : Type} (xs : List α) (i : Int) : Option α := (ixN xs.length i).bind fun j => xs[j]?
theorem ixN_seq {n : Nat} {i : Int} {j : Nat} (h : ixN n i = some j) : seqIndex? i n = some j ∧ j < n ∧ -(n : Int) ≤ i ∧ i < n := by
  unfold ixN at h
  by_cases h0 : 0 ≤ i
  · rw [if_pos h0] at h
    by_cases h1 : i < n
    · rw [if_pos h1] at h
      have e : i.toNat = j := Option.some.inj h
      exact ⟨by rw [seqIndex_of h0 h1, e], by omega, by omega, h1⟩
    · rw [if_neg h1] at h; cases h
  · rw [if_neg h0] at h
    by_cases h1 : -(n : Int) ≤ i
    · rw [if_pos h1] at h
      have e : (i + n).toNat = j := Option.some.inj h
      exact ⟨by rw [seqIndex_neg (by omega) h1, e], by omega, h1, by omega⟩
    · rw [if_neg h1] at h; cases h
theorem atI_get {α : Type} {xs : List α} {i : Int} {v : α} (h : atI xs i = some v) : ∃ j, seqIndex? i xs.length = some j ∧ xs[j]? = some v ∧ j < xs.length ∧ -(xs.length : Int) ≤ i ∧ i < xs.length := by
  unfold atI at h
  cases e : ixN xs.length i with
  | none => rw [e] at h; cases h
  | some j =>
    rw [e] at h
    obtain ⟨h1, h2, h3, h4⟩ := ixN_seq e
    exact ⟨j, h1, h, h2, h3, h4⟩
theorem atI_nat {α : Type} {xs : List α} {j : Nat} {v : α} (h : xs[j]? = some v) : atI xs (j : Int) = some v := by
  have hj : j < xs.length := (List.getElem?_eq_some_iff.mp h).1
  have e : ixN xs.length (j : Int) = some j := by
    unfold ixN
    rw [if_pos (by omega), if_pos (by omega)]; simp
  unfold atI; rw [e]; exact h
theorem atI_last {α : Type} (xs : List α) (v : α) : atI (xs ++ [v]) (-1) = some v := by
  have hl : (xs ++ [v]).length = xs.length + 1 := by simp
  have e : ixN (xs ++ [v]).length (-1) = some xs.length := by
    unfold ixN
    rw [hl, if_neg (by decide), if_pos (by omega)]
    congr 1
    omega
  unfold atI
  rw [e]
  show (xs ++ [v])[xs.length]? = some v
  simp

def PlainIx (b : Expr) : Prop := ∀ o i, subscripted b false o i = operate [o, i] (getItem o i)
def IxR (X : Cx) (r : R2) : Prop :=
  ∀ (value slice : Expr) (pins : List (Addr × Obj)) (s : Shared) (σ : St) (H : Hp) (x y : V) (v u : Value) (Q : VK), Inv X pins σ H s → RelV x v → RelV y u → r x y H Q →
    subscripted slice false v u = operate [v, u] (getItem v u) → wpAny (model X.prog X.w) X.A (subscriptTail value slice v u) (EP X pins σ Q) X.xe s
def MtR (X : Cx) (id : String) (r : V → List V → Hp → VK → Prop) : Prop :=
  ∀ (pins : List (Addr × Obj)) (s : Shared) (σ : St) (H : Hp) (x : V) (xs : List V) (v : Value) (us : List Value) (Q : VK), Inv X pins σ H s → RelV x v → Vals xs us → r x xs H Q →
    wpAny (model X.prog X.w) X.A (call (.builtin id) (v :: us)) (EP X pins σ Q) X.xe s
section
variable {X : Cx} {a b : Expr} {ta tb : TE} {pos : Pos}
theorem IxR.or {r r' : R2} (h : IxR X r) (h' : IxR X r') : IxR X (fun x y H Q => r x y H Q ∨ r' x y H Q) := by
  intro value slice pins s σ H x y v u Q I rx ry q hs
  rcases q with q | q
  · exact h value slice pins s σ H x y v u Q I rx ry q hs
  · exact h' value slice pins s σ H x y v u Q I rx ry q hs
theorem MtR.or {id : String} {r r' : V → List V → Hp → VK → Prop} (h : MtR X id r) (h' : MtR X id r') : MtR X id (fun x xs H Q => r x xs H Q ∨ r' x xs H Q) := by
  intro pins s σ H x xs v us Q I rx rs q
  rcases q with q | q
  · exact h pins s σ H x xs v us Q I rx rs q
  · exact h' pins s σ H x xs v us Q I rx rs q
theorem pe_ix {r : R2} (hr : IxR X r) (ha : PE X a ta) (hb : PE X b tb) (hs : PlainIx b) : PE X (.Subscript a b pos) (tOp r ta tb) := by
  intro pins s σ H Q I h
  exact Subscript_ (binT ha hb I h fun v u s2 x y H2 I2 rx ry q => hr a b pins s2 σ H2 x y v u Q I2 rx ry q (hs _ _))

def rIxL (K : PySem.W.Frag) : R2 := fun x y H Q => ∃ p xs i v, x = .ref p ∧ y = .int i ∧ SqL K H p xs ∧ atI xs i = some v ∧ Q v H
def rIxT (K : PySem.W.Frag) : R2 := fun x y H Q => ∃ p xs i v, x = .ref p ∧ y = .int i ∧ SqT K H p xs ∧ atI xs i = some v ∧ Q v H
def rIxS : R2 := fun x y H Q => ∃ z i c, x = .str z ∧ y = .int i ∧ z.length ≤ sizeLine ∧ atI z.cps.toList i = some c ∧ Q (.str ⟨#[c]⟩) H
theorem ix_list : IxR X (rIxL X.K) := by
  intro value slice pins s σ H x y v u Q I rx ry h hs
  obtain ⟨p, xs, i, z, rfl, rfl, hq, he, q⟩ := h
  cases rx
  obtain ⟨t, rfl⟩ := ry
  obtain ⟨its, r, pl, hz⟩ := I.list hq
  obtain ⟨j, h1, h2, h3, h4, h5⟩ := atI_get he
  obtain ⟨w, ew, rw'⟩ := r.get h2
  have hl := r.length
  have hn := line63
  have fin : EP X pins σ Q w s := ⟨z, H, I, rw', q⟩
  by_cases h0 : 0 ≤ i
  · have hj : i.toNat = j := by
      rw [seqIndex_of h0 h5] at h1
      exact Option.some.inj h1
    exact item_listR pl.isList h0 (by omega) (by rw [hj]; simpa using ew) fin hs
  · have hj : (i + (its.toArray.size : Int)).toNat = j := by
      rw [seqIndex_neg (by omega) h4] at h1
      rw [List.size_toArray, ← hl]
      exact Option.some.inj h1
    exact subscriptTail_builtinR (x := w) pl.isList.typeIs slot_list_getitem.lookup
      (wpAny_getItem_list_neg (Q := fun r s' => r = w ∧ EP X pins σ Q r s') pl.isList (by omega) (by rw [List.size_toArray] <;> omega) (by omega) (by rw [hj]; simpa using ew) ⟨rfl, fin⟩) hs
theorem ix_str : IxR X rIxS := by
  intro value slice pins s σ H x y v u Q I rx ry h hs
  obtain ⟨z, i, c, rfl, rfl, hz, he, q⟩ := h
  obtain ⟨t, rfl⟩ := rx
  obtain ⟨t', rfl⟩ := ry
  obtain ⟨j, h1, h2, h3, h4, h5⟩ := atI_get he
  have hl : z.cps.toList.length = z.length := by simp [Str.length]
  rw [hl] at h1 h4 h5
  have hn := line63
  exact tail_any (typeIs_str s z t) slot_str_getitem.lookup (getItem_str (c := c) (by
    have e1 : decide (i < -(2 ^ 63 : Int)) = false := decide_eq_false (by omega)
    have e2 : decide (i ≥ 2 ^ 63) = false := decide_eq_false (by omega)
    rw [e1, e2, Bool.or_false]) (by rw [h1]; simpa using h2) ⟨.str ⟨#[c]⟩, H, I.tok _, ⟨_, rfl⟩, q⟩) hs
def rIx (K : PySem.W.Frag) : R2 := fun x y H Q => rIxL K x y H Q ∨ rIxT K x y H Q ∨ rIxS x y H Q
theorem mapSeq_set (its : List Value) (n j : Nat) (u : Value) : Obj.mapSeq (·.setIfInBounds j u) { cls := .type "list", data := .seq its.toArray n } = { cls := .type "list", data := .seq (its.set j u).toArray n } := by
  simp [Obj.mapSeq]
theorem Inv.lst {pins : List (Addr × Obj)} {σ : St} {H : Hp} {s : Shared} {p : Addr} {xs : List V} (I : Inv X pins σ H s) (h : H p = some (.lst xs)) :
    ∃ (its : List Value) (n : Nat), Vals xs its ∧ s.heap.get? p = some { cls := .type "list", data := .seq its.toArray n } ∧ xs.length ≤ sizeLine := by
  obtain ⟨z, its, n, r, e⟩ := I.hok p _ h
  exact ⟨its, n, r, e, z⟩
theorem Inv.lstUpd {pins : List (Addr × Obj)} {σ : St} {H : Hp} {s : Shared} {p : Addr} {xs ys : List V} {its its' : List Value} {n n' : Nat} {f : Obj → Obj} (I : Inv X pins σ H s) (h : H p = some (.lst xs))
    (ho : s.heap.get? p = some { cls := .type "list", data := .seq its.toArray n }) (hf : f { cls := .type "list", data := .seq its.toArray n } = { cls := .type "list", data := .seq its'.toArray n' }) (r : Vals ys its') (hz : ys.length ≤ sizeLine) (t : Nat) :
    Inv X pins σ (upd H p (.lst ys)) { s with heap := s.heap.update p f, toks := t } := by
  have e : (s.heap.update p f).get? p = some { cls := .type "list", data := .seq its'.toArray n' } := by
    rw [Heap.get?_update_self f ho (by rw [hf] <;> rfl), hf]
  refine I.write (x := p) (e := p) (by rw [h]; trivial) (.inl rfl) (fun b u hb q => (Heap.get?_update_other _ _ (Ne.symm hb)).trans q) ⟨_, e⟩ ?_
  exact ⟨hz, its', n', r, e⟩
def rSetL : V → V → V → Hp → (Hp → Prop) → Prop := fun o i v H Q => ∃ p xs k j, o = .ref p ∧ i = .int k ∧ H p = some (.lst xs) ∧ ixN xs.length k = some j ∧ Q (upd H p (.lst (xs.set j v)))
theorem set_list : PSet X rSetL := by
  intro pins s σ H o i v ov iv u Q I ro ri rv h
  obtain ⟨p, xs, k, j, rfl, rfl, hp, hj, q⟩ := h
  cases ro
  obtain ⟨t, rfl⟩ := ri
  obtain ⟨its, n, r, ho, hz⟩ := I.lst hp
  obtain ⟨h1, h2, h3, h4⟩ := ixN_seq hj
  have hl := r.length
  have hn := line63
  have I' : Inv X pins σ (upd H p (.lst (xs.set j v))) { s with heap := s.heap.update p (Obj.mapSeq (·.setIfInBounds j u)) } :=
    I.lstUpd hp ho (mapSeq_set its n j u) (r.set rv j) (by rw [List.length_set]; exact hz) s.toks
  by_cases h0 : 0 ≤ k
  · have hk : k.toNat = j := by
      rw [seqIndex_of h0 h4] at h1
      exact Option.some.inj h1
    exact PySem.W.ki_setAt ho h0 (by omega) (by rw [List.size_toArray, ← hl]; exact h4) (by rw [hk]; exact ⟨_, I', q⟩)
  · have hk : (k + (its.toArray.size : Int)).toNat = j := by
      rw [seqIndex_neg (by omega) h3] at h1
      rw [List.size_toArray, ← hl]
      exact Option.some.inj h1
    exact PySem.W.ki_setBack ho (by omega) (by rw [List.size_toArray, ← hl]; exact h3) (by omega) (by rw [hk]; exact ⟨_, I', q⟩)

theorem slice_bounds (lo hi : Option Int) (n : Nat) : (sliceBounds lo hi none n).1 = ((HT.sIx n 0 lo : Nat) : Int) ∧ (sliceBounds lo hi none n).2.1 = ((HT.sIx n n hi : Nat) : Int) ∧ (sliceBounds lo hi none n).2.2 = 1 := by
  refine ⟨?_, ?_, rfl⟩
  · cases lo with
    | none => simp [sliceBounds, HT.sIx]
    | some i =>
      simp only [sliceBounds, HT.sIx, Option.getD_none, show (1 : Int) > 0 by decide, if_true]
      by_cases h : i < 0
      · simp only [h, if_true] <;> omega
      · simp only [h, if_false] <;> omega
  · cases hi with
    | none => simp [sliceBounds, HT.sIx]
    | some i =>
      simp only [sliceBounds, HT.sIx, Option.getD_none, show (1 : Int) > 0 by decide, if_true]
      by_cases h : i < 0
      · simp only [h, if_true] <;> omega
      · simp only [h, if_false] <;> omega
theorem slicePick_cut (its : List Value) (lo hi : Option Int) : slicePick its.toArray lo hi none = ((its.drop (HT.sIx its.length 0 lo)).take (HT.sIx its.length its.length hi - HT.sIx its.length 0 lo)).toArray := by
  obtain ⟨h1, h2, h3⟩ := slice_bounds lo hi its.toArray.size
  unfold slicePick
  rw [h1, h2, h3]
  simp only [sliceRange_one, pick_run, List.size_toArray] <;> rfl
def rSlL (K : PySem.W.Frag) : V → Option Int → Option Int → Hp → VK → Prop := fun x lo hi H Q => ∃ a xs, x = .ref a ∧ SqL K H a xs ∧ ∀ p, H p = none → Q (.ref p) (upd H p (.lst (cutV xs lo hi)))
theorem sl_list : SlR X (rSlL X.K) := by
  intro pins s σ H x v vl vu lo hi sl Q I rx hs pl pu h
  obtain ⟨a, xs, rfl, hx, q⟩ := h
  cases rx
  obtain ⟨its, r, ht, hz⟩ := I.list hx
  have hlen := r.length
  refine ⟨"list", _, slot_list_getitem.lookup, ht.isList.typeIs, ?_⟩
  refine wpAny_getItem_list_slice ht.isList hs pl pu .none (by simp) ?_ (by rw [List.size_toArray] <;> omega)
  rw [slicePick_cut, ← hlen]
  refine ⟨.ref s.heap.objs.size, _, I.laid (t' := s.toks) (o := .lst (cutV xs lo hi)) (fun b ob q => Heap.get?_push_of_some _ q) (Nat.le_refl _) ?_, rfl, q _ (I.hok.fresh (Nat.le_refl _))⟩
  exact ⟨Nat.le_trans (cutV_length xs lo hi) hz, _, 0, (r.drop (HT.sIx xs.length 0 lo)).take (HT.sIx xs.length xs.length hi - HT.sIx xs.length 0 lo), Heap.get?_push_size _ rfl⟩

def flatV : V → Bool
  | .non => true
  | .bl _ => true
  | .int _ => true
  | .str _ => true
  | _ => false
def eqV : V → V → Bool
  | .non, .non => true
  | .bl a, .bl b => a == b
  | .bl a, .int b => (if a then 1 else 0) == b
  | .int a, .bl b => a == (if b then 1 else 0)
  | .int a, .int b => a == b
  | .str a, .str b => a == b
  | _, _ => false
theorem eqAt_V {A : Around} {s : Shared} {y x : V} {u v : Value} (ry : RelV y u) (rx : RelV x v) (fy : flatV y = true) (fx : flatV x = true) : SeqAt.EqAt A s u v (eqV y x) := by
  cases y with
  | non =>
    cases ry
    cases x with
    | non => cases rx; exact SeqAt.EqAt.same _
    | bl b => cases rx; exact SeqAt.EqAt.none_bool b
    | int b => obtain ⟨t, rfl⟩ := rx; exact SeqAt.EqAt.none_int b t
    | str b => obtain ⟨t, rfl⟩ := rx; exact SeqAt.EqAt.none_str b t
    | _ => exact absurd (show false = true from fx) Bool.false_ne_true
  | bl a =>
    cases ry
    cases x with
    | non => cases rx; exact SeqAt.EqAt.bool_none a
    | bl b => cases rx; exact SeqAt.EqAt.bool_bool a b
    | int b => obtain ⟨t, rfl⟩ := rx; exact SeqAt.EqAt.bool_int a b t
    | str b => obtain ⟨t, rfl⟩ := rx; exact SeqAt.EqAt.bool_str a b t
    | _ => exact absurd (show false = true from fx) Bool.false_ne_true
  | int a =>
    obtain ⟨t', rfl⟩ := ry
    cases x with
    | non => cases rx; exact SeqAt.EqAt.int_none a t'
    | bl b => cases rx; exact SeqAt.EqAt.int_bool a t' b
    | int b => obtain ⟨t, rfl⟩ := rx; exact SeqAt.EqAt.int_int a t' b t
    | str b => obtain ⟨t, rfl⟩ := rx; exact SeqAt.EqAt.int_str a t' b t
    | _ => exact absurd (show false = true from fx) Bool.false_ne_true
  | str a =>
    obtain ⟨t', rfl⟩ := ry
    cases x with
    | non => cases rx; exact SeqAt.EqAt.str_none a t'
    | bl b => cases rx; exact SeqAt.EqAt.str_bool a t' b
    | int b => obtain ⟨t, rfl⟩ := rx; exact SeqAt.EqAt.str_int a t' b t
    | str b => obtain ⟨t, rfl⟩ := rx; exact SeqAt.EqAt.str_str a t' b t
    | _ => exact absurd (show false = true from fx) Bool.false_ne_true
  | _ => exact absurd (show false = true from fy) Bool.false_ne_true
def eqU (x : V) (u : Value) : Bool := match u with
  | .none => eqV .non x
  | .bool b => eqV (.bl b) x
  | .int i _ => eqV (.int i) x
  | .str z _ => eqV (.str z) x
  | _ => false
def inV (x : V) (xs : List V) : Bool := xs.any fun y => eqV y x
def rIn (K : PySem.W.Frag) (neg : Bool) : R2 := fun x y H Q => ∃ p xs, y = .ref p ∧ (SqL K H p xs ∨ SqT K H p xs) ∧ flatV x = true ∧ xs.all flatV = true ∧ Q (.bl (if neg then !inV x xs else inV x xs)) H
theorem op_notIn_str : OpR X (compareOp .NotIn) (fun x y H Q => ∃ i j, x = .str i ∧ y = .str j ∧ Q (.bl (!(!(Builtin.Str.occurrences j i 0 j.length 1).isEmpty))) H) := by
  intro pins s σ H x y v u Q I rx ry h
  obtain ⟨i, j, rfl, rfl, q⟩ := h
  obtain ⟨t, rfl⟩ := rx
  obtain ⟨t', rfl⟩ := ry
  exact notIn_str ⟨.bl _, H, I, rfl, q⟩

theorem call_len_seq : CallR X (.builtin "len") (fun xs H Q => ∃ p ys, xs = [.ref p] ∧ (SqL X.K H p ys ∨ SqT X.K H p ys) ∧ Q (.int ys.length) H) := by
  intro pins s σ H xs us Q I r h
  obtain ⟨p, ys, rfl, hq, q⟩ := h
  obtain ⟨u, rfl, rx⟩ := vals1 r
  cases rx
  have hn := line63
  rcases hq with hq | hq
  · obtain ⟨its, r', pl, hz⟩ := I.list hq
    have hlen := r'.length
    exact Calls.call_len_list pl.isList (by simp only [List.size_toArray] <;> omega) ⟨.int ys.length, H, I.tok _, ⟨s.toks + 1, by rw [List.size_toArray, hlen]⟩, q⟩
  · obtain ⟨its, r', pl, hz⟩ := I.tuple hq
    have hlen := r'.length
    exact len_tuple pl (by simp only [List.size_toArray] <;> omega) ⟨.int ys.length, H, I.tok _, ⟨s.toks + 1, by rw [List.size_toArray, hlen]⟩, q⟩
theorem call_len_str : CallR X (.builtin "len") (fun xs H Q => ∃ z, xs = [.str z] ∧ z.length ≤ sizeLine ∧ Q (.int z.length) H) := by
  intro pins s σ H xs us Q I r h
  obtain ⟨z, rfl, hz, q⟩ := h
  obtain ⟨u, rfl, t, rfl⟩ := vals1 r
  have hn := line63
  exact len_str (by omega) ⟨.int z.length, H, I.tok _, ⟨_, rfl⟩, q⟩
theorem CallR.or {f : Value} {r r' : List V → Hp → VK → Prop} (h : CallR X f r) (h' : CallR X f r') : CallR X f (fun xs H Q => r xs H Q ∨ r' xs H Q) := by
  intro pins s σ H xs us Q I rs q
  rcases q with q | q
  · exact h pins s σ H xs us Q I rs q
  · exact h' pins s σ H xs us Q I rs q
def tyV (K : PySem.W.Frag) (T : String) (x : V) (H : Hp) : Prop := match x with
  | .str _ => T = "str"
  | .int _ => T = "int"
  | .ref p => (T = "list" ∧ ∃ xs, SqL K H p xs) ∨ (T = "tuple" ∧ ∃ o, K.lookup p = some o ∧ o.cls = .type "tuple" ∧ o.dict = none) ∨
      (T = "dict" ∧ ((∃ kvs, H p = some (.dK kvs)) ∨ ∃ kvs, H p = some (.dT kvs))) ∨ (T = "set" ∧ ∃ S n, H p = some (.set S n))
  | _ => False
theorem tyV_is {pins : List (Addr × Obj)} {σ : St} {H : Hp} {s : Shared} {T : String} {x : V} {v : Value} (I : Inv X pins σ H s) (r : RelV x v) (ty : tyV X.K T x H) :
    s.TypeIs v T ∧ ∀ a, v = .ref a → ∃ ob, s.heap.get? a = some ob ∧ ob.dict = none := by
  cases x with
  | str z =>
    obtain ⟨t, rfl⟩ := r
    cases (show T = "str" from ty)
    exact ⟨typeIs_str s z t, fun _ e => nomatch e⟩
  | int i =>
    obtain ⟨t, rfl⟩ := r
    cases (show T = "int" from ty)
    exact ⟨typeIs_int s i t, fun _ e => nomatch e⟩
  | ref p =>
    cases r
    rcases ty with ⟨rfl, xs, hq⟩ | ⟨rfl, o, hk, hc, hd⟩ | ⟨rfl, hk⟩ | ⟨rfl, S, n, hk⟩
    · obtain ⟨its, _, pl, _⟩ := I.list hq
      refine ⟨pl.isList.typeIs, fun a e => ?_⟩
      cases e
      obtain ⟨o, n, e, c, hd, _⟩ := pl
      exact ⟨o, e, hd⟩
    · refine ⟨⟨o, I.kIn p o hk, hc⟩, fun a e => ?_⟩
      cases e
      exact ⟨o, I.kIn _ o hk, hd⟩
    · have z : ∃ o, s.heap.get? p = some o ∧ o.ExactDict := by
        rcases hk with ⟨kvs, hk⟩ | ⟨kvs, hk⟩
        · obtain ⟨_, _, _, _, o, _, _, e, ex, _⟩ := I.hok p _ hk
          exact ⟨o, e, ex⟩
        · obtain ⟨_, _, _, _, o, _, _, e, ex, _⟩ := I.hok p _ hk
          exact ⟨o, e, ex⟩
      obtain ⟨o, e, ex⟩ := z
      refine ⟨⟨o, e, ex.1⟩, fun a e2 => ?_⟩
      cases e2
      exact ⟨o, e, ex.2.1⟩
    · obtain ⟨o, _, _, _, e, ex, _⟩ := I.hok p _ hk
      refine ⟨⟨o, e, ex.1⟩, fun a e2 => ?_⟩
      cases e2
      exact ⟨o, e, ex.2.1⟩
  | _ => exact False.elim ty
def tBM0 (K : PySem.W.Frag) (T : String) (r : V → List V → Hp → VK → Prop) (to : TE) : TE := fun σ H Q => to σ H fun x H1 => tyV K T x H1 ∧ r x [] H1 Q
def tBM (K : PySem.W.Frag) (T : String) (r : V → List V → Hp → VK → Prop) (to : TE) (t : TA) : TE := fun σ H Q => to σ H fun x H1 => tyV K T x H1 ∧ t σ H1 fun xs H2 => r x xs H2 Q
variable {o e : Expr} {es : List Expr} {to : TE} {t : TA} {name : Str} {apos cpos : Pos} {T id : String} {r : V → List V → Hp → VK → Prop}
theorem pe_bm (pa : PlainAttrs T) (slot : Slot T name id) (hty : typeOf (.builtin id) = pure (.type "method_descriptor")) (hm : MtR X id r) (ho : PE X o to) (ha : PA X (e :: es) t)
    (hbase : attributeBase o name X.env (eval o X.env) = eval o X.env := by rfl)
    (hfew : ((backTo cpos (starEach (e :: es) X.env)).all (fun x => !x.1) && (backToKw cpos (keywordEach [] X.env)).all (fun x => x.1.isSome)
      && decide ((e :: es).length + ([] : List Keyword).length + (if ([] : List Keyword).isEmpty then 0 else 1) < 30)) = true := by rfl)
    (hline : (apos.endLine == cpos.line) = true := by rfl) (hs : starEach (e :: es) X.env = (false, eval e X.env) :: starEach es X.env := by rfl) (hplain : (backTo cpos (starEach es X.env)).any (·.1) = false := by rfl) :
    PE X (.Call (.Attribute o name apos) (e :: es) [] cpos) (tBM X.K T r to t) := by
  intro pins s σ H Q I h
  refine wpAny_Call_method_late hbase hfew hline rfl (thn (ho pins s σ H _ I h) fun v s1 ⟨x, H1, I1, r1, ty, q1⟩ => ?_)
  obtain ⟨h1, h2⟩ := tyV_is I1 r1 ty
  refine ⟨T, id, pa, slot, hty, h1, h2, ?_⟩
  have hA := ha cpos pins s1 σ H1 _ I1 q1
  rw [hs] at hA ⊢
  refine Calls.callWith_builtin (by show (false || (backTo cpos (starEach es X.env)).any (·.1)) = false; rw [hplain] <;> rfl) (Calls.evalArgs_plain ?_)
  exact thn hA fun us s2 ⟨vs, H2, I2, r2, q2⟩ => hm pins s2 σ H2 x vs v us Q I2 r1 r2 q2
/- xs.append(e), list.index on a module's tuple .. are MtR facts of 06m -/
end
end L2

namespace L2
open PySem PySem.Spec PyProof.Rows

def MtM (X : Cx) (id : String) (r : V → List V → Hp → VK → Prop) : Prop :=
  ∀ (pins : List (Addr × Obj)) (s : Shared) (σ : St) (H : Hp) (x : V) (xs : List V) (v : Value) (us : List Value) (Q : VK), Inv X pins σ H s → RelV x v → Vals xs us → r x xs H Q →
    wpAny (model X.prog X.w) X.A (call (.builtin id) (v :: us)) (EP X pins σ Q) X.xe s

theorem Vals.one : ∀ {x : V} {us : List Value}, Vals [x] us → ∃ u, us = [u] ∧ RelV x u
  | _, _, .cons r .nil => ⟨_, rfl, r⟩
theorem Vals.two : ∀ {x y : V} {us : List Value}, Vals [x, y] us → ∃ u v, us = [u, v] ∧ RelV x u ∧ RelV y v
  | _, _, _, .cons r (.cons q .nil) => ⟨_, _, rfl, r, q⟩
theorem Vals.zero : ∀ {us : List Value}, Vals [] us → us = []
  | _, .nil => rfl
theorem Vals.dropLast {xs : List V} {us : List Value} (h : Vals xs us) : Vals xs.dropLast us.dropLast := by
  induction h with
  | nil => exact .nil
  | cons r t ih =>
    cases t with
    | nil => exact .nil
    | cons q t' => exact .cons r ih
theorem Vals.eraseIdx : ∀ {xs : List V} {us : List Value} (i : Nat), Vals xs us → Vals (xs.eraseIdx i) (us.eraseIdx i)
  | _, _, _, .nil => .nil
  | _, _, 0, .cons _ t => t
  | _, _, i + 1, .cons r t => .cons r (Vals.eraseIdx i t)
theorem Vals.reverse {xs : List V} {us : List Value} (h : Vals xs us) : Vals xs.reverse us.reverse := by
  induction h with
  | nil => exact .nil
  | cons r t ih => rw [List.reverse_cons, List.reverse_cons]; exact Vals.append ih (.cons r .nil)
theorem Vals.rep {xs : List V} {us : List Value} (h : Vals xs us) : ∀ k : Nat, Vals (List.replicate k xs).flatten (List.replicate k us).flatten
  | 0 => .nil
  | k + 1 => by
    rw [List.replicate_succ, List.replicate_succ, List.flatten_cons, List.flatten_cons]
    exact Vals.append h (Vals.rep h k)
section
variable {X : Cx} {pins : List (Addr × Obj)} {σ : St} {H : Hp} {s : Shared} {l b : Addr} {xs ys zs : List V}

theorem Inv.lset {its its' : List Value} {n : Nat} {f : Array Value → Array Value} {t' : Nat} (I : Inv X pins σ H s) (hH : H l = some (.lst xs))
    (e : s.heap.get? l = some { cls := .type "list", data := .seq its.toArray n }) (hf : f its.toArray = its'.toArray) (hv : Vals ys its') (hz : ys.length ≤ sizeLine) :
    Inv X pins σ (upd H l (.lst ys)) { s with heap := s.heap.update l (Obj.mapSeq f), toks := t' } := by
  have q := PySem.IsL.update e f
  rw [hf] at q
  refine I.write (x := l) (e := l) (by rw [hH]; exact trivial) (.inl rfl) (fun b' u hb hu => (Heap.get?_update_other s.heap (Obj.mapSeq f) (Ne.symm hb)).trans hu) ⟨_, q⟩ ?_
  exact ⟨hz, its', _, hv, q⟩
theorem Inv.lnew {its : List Value} {t' : Nat} (I : Inv X pins σ H s) (hv : Vals ys its) (hz : ys.length ≤ sizeLine) :
    Inv X pins σ (upd H s.heap.objs.size (.lst ys)) { s with heap := s.heap.push { cls := .type "list", data := .seq its.toArray }, toks := t' } :=
  I.laid (fun _ _ q => Heap.get?_push_of_some _ q) (Nat.le_refl _) ⟨hz, its, 0, hv, Heap.get?_push_size _ rfl⟩
theorem Inv.fresh (I : Inv X pins σ H s) : H s.heap.objs.size = none := I.hok.fresh (Nat.le_refl _)
theorem Inv.lstM (I : Inv X pins σ H s) (hH : H l = some (.lst xs)) : xs.length ≤ sizeLine ∧ ∃ (its : List Value) (n : Nat), Vals xs its ∧ xs.length = its.length ∧ s.heap.get? l = some { cls := .type "list", data := .seq its.toArray n } := by
  obtain ⟨z, its, n, r, e⟩ := I.hok l _ hH
  exact ⟨z, its, n, r, r.length, e⟩

end

section
variable {X : Cx}

def rAppend : V → List V → Hp → VK → Prop := fun x vs H Q => ∃ l xs y, x = .ref l ∧ vs = [y] ∧ H l = some (.lst xs) ∧ xs.length < sizeLine ∧ Q .non (upd H l (.lst (xs ++ [y])))
theorem mt_append : MtM X "list.append" rAppend := by
  intro pins s σ H x vs v us Q I rx rv h
  obtain ⟨l, xs, y, rfl, rfl, hH, hz, q⟩ := h
  cases rx
  obtain ⟨u, rfl, ru⟩ := rv.one
  obtain ⟨z, its, n, r, hl, e⟩ := I.lstM hH
  refine call_meets F.slot_list_append ⟨_, e, rfl⟩ F.entry_list_append (F.args_list_append_2 _ _) (PySem.list_append l its.toArray n u (by rw [List.size_toArray]; omega)) ⟨e, ?_⟩
  refine ⟨.non, _, I.lset (its' := its ++ [u]) hH e (by simp) (r.append (.cons ru .nil)) ?_, rfl, q⟩
  rw [List.length_append, List.length_singleton]
  omega

def rExtend : V → List V → Hp → VK → Prop := fun x vs H Q => ∃ l b xs zs, x = .ref l ∧ vs = [.ref b] ∧ H l = some (.lst xs) ∧ H b = some (.lst zs) ∧ xs.length + zs.length ≤ sizeLine ∧ Q .non (upd H l (.lst (xs ++ zs)))
def rPop : V → List V → Hp → VK → Prop := fun x vs H Q => ∃ l xs y, x = .ref l ∧ vs = [] ∧ H l = some (.lst xs) ∧ xs[xs.length - 1]? = some y ∧ Q y (upd H l (.lst xs.dropLast))
def rPopAt : V → List V → Hp → VK → Prop := fun x vs H Q => ∃ l xs i k y, x = .ref l ∧ vs = [.int i] ∧ H l = some (.lst xs) ∧ -(2 ^ 63) ≤ i ∧ i < 2 ^ 63 ∧ seqIndex? i xs.length = some k ∧ xs[k]? = some y ∧ Q y (upd H l (.lst (xs.eraseIdx k)))
def rReverse : V → List V → Hp → VK → Prop := fun x vs H Q => ∃ l xs, x = .ref l ∧ vs = [] ∧ H l = some (.lst xs) ∧ Q .non (upd H l (.lst xs.reverse))
def rClear : V → List V → Hp → VK → Prop := fun x vs H Q => ∃ l xs, x = .ref l ∧ vs = [] ∧ H l = some (.lst xs) ∧ Q .non (upd H l (.lst []))
def rCat : R2 := fun x y H Q => ∃ l b xs zs, x = .ref l ∧ y = .ref b ∧ H l = some (.lst xs) ∧ H b = some (.lst zs) ∧ xs.length + zs.length ≤ sizeLine ∧ ∀ p, H p = none → Q (.ref p) (upd H p (.lst (xs ++ zs)))
theorem op_cat : OpR X (binaryOp .Add) rCat := by
  intro pins s σ H x y v u Q I rx ry h
  obtain ⟨l, b, xs, zs, rfl, rfl, hH, hB, hz, q⟩ := h
  cases rx
  cases ry
  obtain ⟨z, its, n, r, hl, e⟩ := I.lstM hH
  obtain ⟨z2, its2, n2, r2, hl2, e2⟩ := I.lstM hB
  refine PySem.P.add_list e e2 ?_ (by rw [List.size_toArray, List.size_toArray]; omega)
  have ea : its.toArray ++ its2.toArray = (its ++ its2).toArray := by simp
  rw [ea]
  exact ⟨.ref _, _, I.lnew (t' := s.toks) (r.append r2) (by rw [List.length_append]; omega), rfl, q _ I.fresh⟩
def rRep : R2 := fun x y H Q => ∃ l k xs, x = .ref l ∧ y = .int k ∧ H l = some (.lst xs) ∧ -(2 ^ 63) ≤ k ∧ k < 2 ^ 63 ∧ xs.length * k.toNat ≤ sizeLine ∧
  ∀ p, H p = none → Q (.ref p) (upd H p (.lst (List.replicate k.toNat xs).flatten))
end

section
variable {prog : Program} {w : World} {A : Around} {E : Value → Shared → Prop} {s : Shared}
end

section
variable {X : Cx}
end
end L2

namespace Att
open PySem PySem.W PySem.Calls PyProof.Rows

theorem ints_of_wellAll {P : Params} {h : Heap} : ∀ (ns : List Int) (vs : List Value), WellAll P h vs (ns.map WData.int) → IntsAre vs ns := by
  intro ns
  induction ns with
  | nil =>
    intro vs w
    rw [List.map_nil] at w
    cases w
    exact .nil
  | cons n ns ih =>
    intro vs w
    rw [List.map_cons] at w
    cases w with
    | cons a b =>
      cases a
      exact .cons _ _ (ih _ b)

theorem script_of {l : OpenLaw} {n : Nat} (hn : l.most = some n) {P : Params} {h : Heap} {args : List WData} {vals : List Value}
    (hpre : l.row.toRowW.claim.pre args = true) (hwl : WellAll P h vals args) :
    ∃ a vs ns, vals = [Value.ref a] ∧ args = [WData.list (ns.map WData.int)] ∧ h.get? a = some { cls := .type "list", data := .seq vs.toArray } ∧ IntsAre vs ns ∧ ns.length ≤ n := by
  have hsh : WShape.hasAll [] args [.list .int] = true := (pre_splitW hpre).1
  have hc : l.pre.holds [] { args := args } = true := (pre_splitW hpre).2
  obtain ⟨d, r, rfl, h1, h2⟩ := hasAllW_cons hsh
  obtain rfl := hasAllW_nil h2
  obtain ⟨xs, rfl, h3⟩ := hasW_list h1
  obtain ⟨ns, rfl⟩ := items_int h3
  have hlen : ns.length ≤ n := by
    unfold OpenLaw.pre at hc
    have h4 : (WTm.not (.lt (.lit (.int (n : Int))) (.len (.arg 0)))).holds [] { args := [.list (ns.map .int)] } = true := by
      have h4 := (holds_andW hc).1
      rw [hn] at h4
      exact h4
    have h5 := condW_of h4 (w_not (w_lt w_lit (w_len_list (w_arg rfl))))
    rw [List.length_map] at h5
    refine Nat.le_of_not_lt fun q => ?_
    have q' : (n : Int) < ((ns.length : Nat) : Int) := by omega
    first
      | (rw [decide_eq_true q'] at h5; exact absurd h5 (by decide))
      | (simp at h5; omega)
  cases hwl with
  | cons w1 w2 =>
    cases w2
    cases w1 with
    | list ho hall => exact ⟨_, _, ns, rfl, rfl, ho, ints_of_wellAll ns _ hall, hlen⟩

theorem post_true (l : OpenLaw) (args : List WData) : l.row.toRowW.claim.post args (.bool true) args = true :=
  postW_of (r := l.row.toRowW) (X := (true == true))
    (show WShape.has [] (.bool true) .bool = true by first | rfl | decide | simp [WShape.has, WShape.arms, WShape.armsAll])
    (show (WTm.eq .res (.lit (.bool true))).value [] { args := args, res := some (.bool true), after := args } = some (.bool (true == true)) from w_eq_bool (w_res rfl) w_lit) rfl

theorem attach_call {l : OpenLaw} {n : Nat} {q : Program} {loose : List Str} {XP : (Str → Option Value) → Heap → Prop} {YP : World → Heap → Prop} {d : DefRec}
    (hn : l.most = some n) (hdf : d.params.defaults = [])
    (call : ∀ (w : World) (s₀ s₁ : Shared) (mg mb : Str → Option Value) (fa : Addr) (o : Obj) (pm cd doc : Value) (a : Addr) (vs : List Value) (ns : List Int),
      Ground q loose [] XP w s₀ mg mb s₁.heap → YP w s₁.heap →
      s₁.heap.get? fa = some o → o.data = .func (docDef d.name d.params d.body d.scope pm cd doc) → s₁.heap.CodeRec cd d.name → mg d.name = some (.ref fa) →
      s₁.heap.get? a = some { cls := .type "list", data := .seq vs.toArray } → IntsAre vs ns → ns.length ≤ n → s₁.gens = #[] →
      codeAny (model l.prog w) callerA (.call (.ref fa) ⟨[.ref a], []⟩) (fun r s' => r = .ok (.ret (.bool true)) ∧ OldK s₁.heap s'.heap ∧ s'.os = s₁.os ∧ AllBare s'.gens) s₁) :
    WalkO q loose XP YP l.row.toRowW d [] (fun f vs => PySem.call f vs) := by
  intro w s₀ s₁ mg mb G Y fa o pm cd doc dV kV ho hd hcd hD hmg hg args vals as hpre hlay hrd hwl hlo
  obtain rfl : dV = .none := Dflts.none hD hdf
  obtain rfl : kV = .none := Dflts.noKw hD
  obtain ⟨a, vs, ns, rfl, rfl, hobj, hints, hlen⟩ := script_of hn hpre hwl
  refine enter_call (codeAny_mono (call w s₀ s₁ mg mb fa o pm cd doc a vs ns G Y ho (fd_plain hd) hcd hmg hobj hints hlen hg) fun r s' hq => ?_)
  obtain ⟨rfl, h2, h3, h4⟩ := hq
  exact ⟨.inl ⟨.bool true, .bool true, [], rfl, fun _ => rfl, .bool true, post_true l _, fun _ => ⟨List.Pairwise.nil, fun _ hm => (nomatch hm)⟩⟩, h2, h3, h4⟩

section
variable {prog : Program} {w : World} {A : Around} {E : Value → Shared → Prop} {s : Shared} {K : Frag}

def noObjs (h : Heap) : Heap := { h with objs := #[] }
def ledger (h : Heap) (L d : Addr) : List (Addr × Obj) := (List.range h.objs.size).filterMap fun a => if a = L ∨ a = d then none else (h.get? a).map fun o => (a, o)
end
end Att

namespace L2
open PySem PySem.Spec PyProof.Rows

theorem vals_ints : ∀ {vs : List Value} {ns : List Int}, IntsAre vs ns → Vals (ns.map V.int) vs
  | _, _, .nil => .nil
  | _, _, .cons n t h => .cons ⟨t, rfl⟩ (vals_ints h)

def Only (H : Hp) : Prop := ∀ b, H b = none ∨ ∃ o xs, H b = some (.frz o (.lst xs))

theorem law_call {P : Program} {w : World} {K : PySem.W.Frag} {mg mb : Str → Option Value} {CX : CXT} {k : Nat} {fa a : Addr} {fd : FuncData} {x : Str} {sp : Sp} {s₁ : Shared} {vs : List Value} {ns : List Int}
    (KX : K.In s₁.heap) (hns : s₁.heap.Ns mainGlobals mg) (hb : s₁.heap.Ns builtinsNs mb) (hbb : ∀ x : Str, x ≠ "__name__" → mb x = bootBuiltins x) (hlim : s₁.heap.NoLimit) (hg : s₁.gens = #[])
    (ha : s₁.heap.get? a = some { cls := .type "list", data := .seq vs.toArray }) (hi : IntsAre vs ns) (hl : ns.length ≤ sizeLine) (hr : Room k callerA)
    (F : ∀ base : Heap, K.In base → base.Ns mainGlobals mg → FnOk P w K mg base CX k fa fd [x] sp) (hbind : ∀ (s : Shared) (u : Value), BindsTo s fd ⟨[u], []⟩ [(x, u)])
    (hsp : ∀ H : Hp, Only H → SqL K H a (ns.map V.int) → sp [.ref a] H (fun v _ => v = .bl true) fun _ _ _ => False)
    (hCX : ∀ H e s', CX [] H s₁ (fun _ _ _ => False) e s' → False) :
    codeAny (model P w) callerA (.call (.ref fa) ⟨[.ref a], []⟩) (fun r s' => r = .ok (.ret (.bool true)) ∧ OldK s₁.heap s'.heap ∧ s'.os = s₁.os ∧ AllBare s'.gens) s₁ := by
  have rv := vals_ints hi
  have lenV := hi.length
  -- from an abstract heap in which nothing but the script may be tracked
  have core : ∀ H : Hp, Only H → SqL K H a (ns.map V.int) → HOk P w H s₁.heap → (∀ b, H b ≠ none → b = a) → (H a ≠ none → K.lookup a = none) →
      codeAny (model P w) callerA (.call (.ref fa) ⟨[.ref a], []⟩) (fun r s' => r = .ok (.ret (.bool true)) ∧ OldK s₁.heap s'.heap ∧ s'.os = s₁.os ∧ AllBare s'.gens) s₁ := by
    intro H hO hS hok hA hK
    have base_of : ∀ {b : Addr} {o : Obj}, s₁.heap.get? b = some o → H b = none → (hidT s₁.heap H).get? b = some o := fun e n => hidT_get e n
    have noA : ∀ {b : Addr} {o : Obj} {es : Array DictEntry} {ep : Nat}, s₁.heap.get? b = some o → o.data = .dict es ep → H b = none := fun {b o es ep} e d => by
      cases q : H b with
      | none => rfl
      | some u =>
        have e' : b = a := hA b (by rw [q]; simp)
        subst e'
        rw [ha] at e; cases e
        have d' : Data.seq vs.toArray _ = Data.dict es ep := d
        cases d'
    have nsK : ∀ {b : Addr} {m : Str → Option Value}, s₁.heap.Ns b m → (hidT s₁.heap H).Ns b m := fun {b m} ⟨o, es, ep, e, d, r⟩ => ⟨o, es, ep, base_of e (noA e d), d, r⟩
    have hKb : K.In (hidT s₁.heap H) := fun b o e => base_of (KX b o e) (by
      cases q : H b with
      | none => rfl
      | some u =>
        have e' : b = a := hA b (by rw [q]; simp)
        subst e'
        rw [hK (by rw [q]; simp)] at e; cases e)
    have hM : Mod K mg (hidT s₁.heap H) := ⟨hKb, nsK hns, ⟨mb, nsK hb, hbb⟩, let ⟨mc, h1, h2⟩ := hlim; ⟨mc, nsK h1, h2⟩⟩
    have e0 : Env0 P w K mg (hidT s₁.heap H) callerA [] s₁ H := ⟨rfl, hM, fun b o e => of_hidT e, Nat.le_of_eq (hidT_size _ _), trivial, fun b hb => absurd (show b ∈ ([] : List Addr) from hb) (by simp), hok, .of_eq hg⟩
    refine codeAny_mono ((F _ hKb (nsK hns)).run callerA [] s₁ H ⟨[.ref a], []⟩ [.ref a] [.ref a] _ _ hr e0 (hbind s₁ (.ref a)) (.cons rfl .nil) (hsp H hO hS)) fun r s' h => ?_
    cases r with
    | error e => exact (hCX H e s' h).elim
    | ok fl =>
      cases fl with
      | next => exact False.elim h
      | brk => exact False.elim h
      | cont => exact False.elim h
      | ret u =>
        obtain ⟨v, H', os, bare, un, hok', r', q⟩ := h
        have q' : v = .bl true := q
        subst q'
        obtain rfl : u = Value.bool true := r'
        refine ⟨rfl, OldK.of_keep fun b o e => ?_, os, bare⟩
        cases q : H b with
        | none => exact un.keep b o e q (by intro z; exact absurd (show b ∈ ([] : List Addr) from z) (by simp)) (by simp)
        | some u =>
          rcases hO b with z | ⟨ob, xs, z⟩
          · rw [q] at z; cases z
          · have z2 := un.frzs b ob _ z
            obtain ⟨e1, _⟩ := hok b _ z
            obtain ⟨e2, _⟩ := hok' b _ z2
            rw [e] at e1; cases e1
            exact e2
  cases hk : K.lookup a with
  | some o =>
    -- the script is one of the module's own objects
    have e := KX a o hk
    rw [ha] at e
    cases e
    refine core (fun _ => none) (fun _ => .inl rfl) (.inr ⟨_, vs.toArray, _, hk, rfl, rfl, rfl, by rw [List.size_toArray, lenV]; exact hl, by simpa using rv⟩) (fun b u z => by have z' : (none : Option HO) = some u := z; cases z') (fun b z => absurd rfl z) fun z => absurd rfl z
  | none =>
    refine core (fun b => if b = a then some (.frz { cls := .type "list", data := .seq vs.toArray } (.lst (ns.map V.int))) else none) (fun b => ?_) (.inl (.inr ⟨{ cls := .type "list", data := .seq vs.toArray }, if_pos rfl⟩)) (fun b u z => ?_) (fun b z => ?_) fun _ => hk
    · by_cases hb : b = a
      · exact .inr ⟨_, _, if_pos hb⟩
      · exact .inl (if_neg hb)
    · by_cases hb : b = a
      · have z' := (if_pos hb).symm.trans z
        cases z'
        subst hb
        exact ⟨ha, by rw [List.length_map]; exact hl, vs, _, rv, ha⟩
      · have z' := (if_neg hb).symm.trans z
        cases z'
    · by_cases hb : b = a
      · exact hb
      · exact absurd (if_neg hb) z
end L2

namespace L2
open PySem PySem.Spec PyProof.Rows

abbrev KOf {K : PySem.W.Frag} {h : Heap} (_ : K.In h) : PySem.W.Frag := K

theorem walk_of {l : PySem.W.OpenLaw} {n k : Nat} {q : Program} {loose : List Str} {XP : (Str → Option Value) → Heap → Prop} {YP : World → Heap → Prop} {d : DefRec} {K : Params → PySem.W.Frag} {CX : World → CXT} {sp : World → Sp} {x : Str}
    (hn : l.most = some n) (hn2 : n ≤ sizeLine) (hdf : d.params.defaults = []) (hr : Room k callerA)
    (hY : ∀ (w : World) (h : Heap), YP w h → (K w.params).In h)
    (F : ∀ (w : World) (mg : Str → Option Value) (fa : Addr) (h : Heap), (K w.params).In h → h.Ns mainGlobals mg → mg d.name = some (.ref fa) →
      ∃ fd : FuncData, (∀ (s : Shared) (u : Value), BindsTo s fd ⟨[u], []⟩ [(x, u)]) ∧
        ∀ base : Heap, (K w.params).In base → base.Ns mainGlobals mg → FnOk l.prog w (K w.params) mg base (CX w) k fa fd [x] (sp w))
    (hsp : ∀ (w : World) (H : Hp) (a : Addr) (ns : List Int), ns.length ≤ n → Only H → SqL (K w.params) H a (ns.map V.int) → sp w [.ref a] H (fun v _ => v = .bl true) fun _ _ _ => False)
    (hCX : ∀ (w : World) (H : Hp) (s : Shared) (e : Value) (s' : Shared), CX w [] H s (fun _ _ _ => False) e s' → False) :
    PySem.W.WalkO q loose XP YP l.row.toRowW d [] (fun f vs => PySem.call f vs) := by
  refine Att.attach_call hn hdf fun w s₀ s₁ mg mb fa o pm cd doc a vs ns G Y ho hd hcd hmg hobj hints hlen hg => ?_
  have KX := hY w _ Y
  obtain ⟨fd, hb, hF⟩ := F w mg fa _ KX G.T.g hmg
  exact law_call KX G.T.g G.T.b G.T.builtins G.T.nolimit hg hobj hints (Nat.le_trans hlen hn2) hr hF hb (fun H hO hS => hsp w H a ns hlen hO hS) fun H e s' => hCX w H s₁ e s'
end L2

/- THE LAST THEOREM (shape; LID, My.* are yours):
   My.Adr: a structure of the addresses that your layer names (classes, functions); My.Txt K t: a structure (Prop) of the equations over K;
   My.txt_mk : {K} {implicit addresses ..} (e1 : nsIn K mainGlobals "law" = some (some (.ref f))) (e2 : K.lookup f = some ⟨oc, od, .func (fnOf "law" "law" params body scope dV kV doc pm an cdv ct), sl⟩) (e3 : codeIn K cdv "law" = true) .. : ∃ t, My.Txt K t

set_option maxRecDepth 100000 in
set_option maxHeartbeats 0 in
theorem PySem.Challenge.cw_LID_holds : PySem.Challenge.rw_LID.Holds := by
  w_on; o_law; k_head; (case hw => w_witness2)
  k_fill
  refine L2.walk_of (l := PySem.Challenge.rw_LID) (n := 63) (k := 40) (x := "script") (CX := fun w => ..) (sp := fun _ => My.sp_law) rfl (by decide) rfl ⟨rfl, by decide, by decide⟩ (fun w h Y => PySem.W.kIn_of Y) ?F ?S ?C
  case F =>
    intro w mg fa h KX G hmg
    have T : ∃ t, My.Txt (L2.KOf KX) t := by
      dsimp only [L2.KOf]                          -- K must stand as «<heap const> w.params» for k_is
      refine' My.txt_mk ?e1 ?e2 ?e3 ..
      (case e1 => PySem.W.k_is)                    -- in the order: a name -> its address -> its object -> its parts
      (case e2 => PySem.W.k_is)
      ..
    obtain ⟨t, T⟩ := T
    have e0 := hmg.symm.trans (PySem.W.mg_of KX G T.law)
    cases e0                                       -- fa is the law's own address
    exact ⟨_, fun s u => .of_eq rfl, fun base kb nb => My.law_fn T kb nb⟩     -- if «.of_eq rfl» comes too early: refine' ⟨_, ?b, fun base kb nb => My.law_fn T kb nb⟩; exact fun s u => .of_eq rfl
  case S => exact fun w H a ns hl hO hS => ..
  case C => exact ..
(the tactic k_is has no namespace: write k_is) -/

namespace L2
open PySem PySem.Spec PyProof.Rows

def inClass (s : Stmt) (j : Nat) : Stmt := match s with
  | .ClassDef _ _ _ body _ _ _ _ _ _ _ => body.getD j (.Pass ⟨0, 0, 0, 0⟩)
  | _ => .Pass ⟨0, 0, 0, 0⟩
def defArgs (s : Stmt) : Arguments := match s with
  | .FunctionDef _ a _ _ _ _ _ _ _ _ => a
  | _ => { posonlyargs := [], args := [], vararg := none, kwonlyargs := [], kw_defaults := [], kwarg := none, defaults := [] }
def defBody (s : Stmt) : List Stmt := match s with
  | .FunctionDef _ _ b _ _ _ _ _ _ _ => b
  | _ => []
def defScope (s : Stmt) : Scope := match s with
  | .FunctionDef _ _ _ _ _ _ sc _ _ _ => sc
  | _ => { kind := .function, names := [], isGenerator := false, isCoroutine := false }

abbrev CX0 : CXT := fun _ _ _ _ _ _ => False
abbrev E0 : XK := fun _ _ _ => False
theorem pass0 {X : Cx} : Passes CX0 X E0 := fun _ _ _ _ _ _ _ h => h.elim

structure Fun (K : PySem.W.Frag) (x qual : Str) (st : Stmt) (f : Addr) (fd : FuncData) : Prop where
  ex : ∃ (oc : Value) (od : Option Addr) (kV doc pm : Value) (an : Option Addr) (cdv ct : Value) (osl : Array (Option Value)),
    fd = PySem.W.fnOf x qual (defArgs st) (defBody st) (defScope st) .none kV doc pm an cdv ct ∧ K.lookup f = some ⟨oc, od, .func fd, osl⟩ ∧ PySem.W.codeIn K cdv qual = true
  kp : PySem.W.keepIn K (.ref f) = true
section
variable {P : Program} {w : World} {K : PySem.W.Frag} {mg : Str → Option Value} {base : Heap}
theorem Fun.ok {x qual : Str} {st : Stmt} {f : Addr} {fd : FuncData} {N ps : List Str} {k : Nat} {sp : Sp} (F : Fun K x qual st f fd) (S : FnScope N ps (defScope st)) (len : ∀ vs H Q E, sp vs H Q E → vs.length = ps.length)
    (hbody : ∀ (cdv : Value) (A : Around) (outer : List Env) (s : Shared) (H : Hp) (vs : List V) (Q : VK) (E : XK), Room k (A.deeper (envOfC qual (defScope st) s.heap.objs.size f cdv)) → sp vs H Q E →
      ∃ t, PSs (cxOf CX0 P w K mg base N qual (defScope st) f cdv A outer s H E).nox (defBody st) t ∧ t { nx := fun _ H' => Q .non H', rt := Q } (start N vs) H) : FnOk P w K mg base CX0 (k + 1) f fd ps sp := by
  obtain ⟨oc, od, kV, doc, pm, an, cdv, ct, osl, rfl, lk, hcd⟩ := F.ex
  refine fn_of lk hcd S len fun A outer s H vs Q E hr hsp => ?_
  obtain ⟨t, h, q⟩ := hbody cdv A outer s H vs Q E hr hsp
  exact ⟨t, h.nox, q⟩
theorem Fun.binds {x qual : Str} {st : Stmt} {f : Addr} {fd : FuncData} {ps : List Str} (F : Fun K x qual st f fd)
    (h : ∀ (kV doc pm : Value) (an : Option Addr) (cdv ct : Value) (us : List Value), us.length = ps.length → bindArgs (PySem.W.fnOf x qual (defArgs st) (defBody st) (defScope st) .none kV doc pm an cdv ct) ⟨us, []⟩ = pure (ps.zip us)) : Binds K fd ps [] := by
  obtain ⟨oc, od, kV, doc, pm, an, cdv, ct, osl, rfl, lk, hcd⟩ := F.ex
  exact .all (h kV doc pm an cdv ct)
theorem fun_mk {x qual : Str} {st : Stmt} {f : Addr} {oc : Value} {od an : Option Addr} {osl : Array (Option Value)} {kV doc pm cdv ct : Value} (l : K.lookup f = some ⟨oc, od, .func (PySem.W.fnOf x qual (defArgs st) (defBody st) (defScope st) .none kV doc pm an cdv ct), osl⟩)
    (c : PySem.W.codeIn K cdv qual = true) (k : PySem.W.keepIn K (.ref f) = true) : Fun K x qual st f (PySem.W.fnOf x qual (defArgs st) (defBody st) (defScope st) .none kV doc pm an cdv ct) := ⟨⟨oc, od, kV, doc, pm, an, cdv, ct, osl, rfl, l, c⟩, k⟩
end
theorem small1000 {n : Nat} (h : n ≤ 1000) : n < sizeLine := Nat.lt_of_le_of_lt h (by decide)

section
variable {X : Cx}
theorem pv (i : Nat) {x : Str} {pos : Pos} (hN : X.N[i]? = some x := by rfl) (hv : Vis X.env.scope x := by first | exact Or.inl rfl | exact Or.inr (Or.inl rfl) | exact Or.inr (Or.inr rfl)) (hd : (x == ("__debug__" : Str)) = false := by decide)
    (hcd : (x == ("__classdict__" : Str)) = false := by decide) : PE X (.Name x pos) (tVar i) := pe_var hN hv hd hcd
end

theorem iteF {A B : Prop} (h : B) : if false = true then A else B := by
  rw [if_neg Bool.false_ne_true]
  exact h
theorem iteT {A B : Prop} (h : A) : if true = true then A else B := by
  rw [if_pos rfl]
  exact h
def Same (H H' : Hp) : Prop := ∀ b o, H b = some o → H' b = some o
theorem Same.refl (H : Hp) : Same H H := fun _ _ h => h
theorem Same.trans {H H1 H2 : Hp} (a : Same H H1) (b : Same H1 H2) : Same H H2 := fun c o h => b c o (a c o h)
theorem Same.free {H H' : Hp} (e : Same H H') {l : Addr} (h : H' l = Option.none) : H l = Option.none := by
  cases q : H l with
  | none => rfl
  | some o =>
    rw [e l o q] at h
    cases h
theorem Same.seq {K : PySem.W.Frag} {H H' : Hp} {a : Addr} {xs : List V} (e : Same H H') (h : SqL K H a xs) : SqL K H' a xs := by
  rcases h with (h | ⟨o, h⟩) | h
  · exact .inl (.inl (e _ _ h))
  · exact .inl (.inr ⟨o, e _ _ h⟩)
  · exact .inr h

end L2

namespace L2
open PySem PySem.Spec PyProof.Rows
def T (l : List Nat) : Str := ⟨l.toArray⟩
theorem T_len (l : List Nat) : (T l).length = l.length := by simp [T, Str.length]
theorem T_cps (l : List Nat) : (T l).cps.toList = l := by simp [T]
theorem T_inj {a b : List Nat} (h : T a = T b) : a = b := by
  have := congrArg (fun s : Str => s.cps.toList) h
  simpa [T] using this
theorem T_eq {a b : List Nat} : (V.str (T a) = V.str (T b)) = (a = b) := by
  apply propext
  constructor
  · intro h; injection h with h; exact T_inj h
  · intro h; rw [h]
theorem T_app (a b : List Nat) : T a ++ T b = T (a ++ b) := by
  apply ext_toList
  rw [PySem.Str.cps_append, Array.toList_append, T_cps, T_cps, T_cps]
theorem T_one (c : Nat) : (⟨#[c]⟩ : Str) = T [c] := rfl
section
variable {X : Cx}
def rAddT : R2 := fun x y H Q => ∃ a b, x = .str (T a) ∧ y = .str (T b) ∧ a.length + b.length ≤ sizeLine ∧ Q (.str (T (a ++ b))) H
theorem op_addT : OpR X (binaryOp .Add) rAddT := by
  intro pins s σ H x y v u Q I rx ry h
  obtain ⟨a, b, rfl, rfl, hz, q⟩ := h
  refine op_add_str pins s σ H _ _ v u Q I rx ry ⟨T a, T b, rfl, rfl, by rw [T_len, T_len]; exact hz, ?_⟩
  rw [T_app]; exact q
theorem call_lenT : CallR X (.builtin "len") (fun xs H Q => ∃ a, xs = [.str (T a)] ∧ a.length ≤ sizeLine ∧ Q (.int a.length) H) := by
  intro pins s σ H xs us Q I r h
  obtain ⟨a, rfl, hz, q⟩ := h
  refine call_len_str pins s σ H _ us Q I r ⟨T a, rfl, by rw [T_len]; exact hz, ?_⟩
  rw [T_len]; exact q
def rIxT' : R2 := fun x y H Q => ∃ a i c, x = .str (T a) ∧ y = .int i ∧ a.length ≤ sizeLine ∧ 0 ≤ i ∧ a[i.toNat]? = some c ∧ Q (.str (T [c])) H
theorem ix_T : IxR X rIxT' := by
  intro value slice pins s σ H x y v u Q I rx ry h hs
  obtain ⟨a, i, c, rfl, rfl, hz, h0, hc, q⟩ := h
  refine ix_str value slice pins s σ H _ _ v u Q I rx ry ⟨T a, i, c, rfl, rfl, by rw [T_len]; exact hz, ?_, q⟩ hs
  rw [T_cps]
  have := atI_nat hc
  rw [show ((i.toNat : Nat) : Int) = i by omega] at this
  exact this
def cutT (l : List Nat) (lo hi : Option Int) : List Nat := (l.drop (HT.sIx l.length 0 lo)).take (HT.sIx l.length l.length hi - HT.sIx l.length 0 lo)
theorem cutT_le (l : List Nat) (lo hi : Option Int) : (cutT l lo hi).length ≤ l.length := by
  unfold cutT
  rw [List.length_take, List.length_drop]
  omega
theorem cutT_to {l : List Nat} {n : Nat} (h : n ≤ l.length) : cutT l none (some (n : Int)) = l.take n := by
  unfold cutT
  rw [HT.sIx_none, HT.sIx_nat, List.drop_zero, Nat.sub_zero, Nat.min_eq_left h]
theorem cutT_from {l : List Nat} {n : Nat} (h : n ≤ l.length) : cutT l (some (n : Int)) none = l.drop n := by
  unfold cutT
  rw [HT.sIx_none, HT.sIx_nat, Nat.min_eq_left h]
  exact List.take_of_length_le (by rw [List.length_drop]; omega)
theorem slice_ix (l u : Option Int) (n : Nat) : Builtin.Str.strSliceIndices l u 1 n = (List.range (HT.sIx n n u - HT.sIx n 0 l)).map (HT.sIx n 0 l + ·) := by
  obtain ⟨h1, h2, h3⟩ := slice_bounds l u n
  have e : Builtin.Str.strSliceIndices l u 1 n = sliceRange (sliceBounds l u none n).1 (sliceBounds l u none n).2.1 1 := rfl
  rw [e, h1, h2, sliceRange_one]
def rSlS : V → Option Int → Option Int → Hp → VK → Prop := fun x lo hi H Q => ∃ a, x = .str (T a) ∧ a.length ≤ sizeLine ∧ Q (.str (T (cutT a lo hi))) H
theorem cut_made {a : List Nat} {t : Tok} {l u : Option (Int × Tok)} {Q : Value → Shared → Prop} {s : Shared} (hz : a.length ≤ sizeLine)
    (q1 : Q (.str (T (cutT a (l.map (·.1)) (u.map (·.1)))) t) s) (q2 : Q (.str (T (cutT a (l.map (·.1)) (u.map (·.1)))) s.toks) { s with toks := s.toks + 1 }) : (sliceMade (T a) t l u none).post Q s := by
  have hp : ((slicePicked (T a) l u none).filterMap ((T a).cps[·]?)).toArray = (T (cutT a (l.map (·.1)) (u.map (·.1)))).cps := by
    unfold slicePicked
    show ((Builtin.Str.strSliceIndices (l.map (·.1)) (u.map (·.1)) 1 (T a).length).filterMap ((T a).cps[·]?)).toArray = _
    rw [slice_ix, pick_run, T_cps, T_len]
    rfl
  unfold sliceMade
  by_cases c : (((none : Option (Int × Tok)).map (·.1)).getD 1 == 1 && (slicePicked (T a) l u none).length == (T a).length) = true
  · rw [if_pos c]
    show Q (.str (T a) t) s
    have e : cutT a (l.map (·.1)) (u.map (·.1)) = a := by
      rw [Bool.and_eq_true] at c
      have c2 := beq_iff_eq.mp c.2
      unfold slicePicked at c2
      have c3 : ((Builtin.Str.strSliceIndices (l.map (·.1)) (u.map (·.1)) 1 (T a).length)).length = (T a).length := c2
      rw [slice_ix, T_len, List.length_map, List.length_range] at c3
      have h1 := HT.sIx_le a.length a.length (Nat.le_refl _) (u.map (·.1))
      have h2 : HT.sIx a.length 0 (l.map (·.1)) = 0 := by
        by_cases z : a.length = 0
        · have := HT.sIx_le a.length 0 (Nat.zero_le _) (l.map (·.1)); omega
        · omega
      unfold cutT
      rw [h2, List.drop_zero]
      exact List.take_of_length_le (by omega)
    rw [e] at q1
    exact q1
  · rw [if_neg c]
    have e : (⟨((slicePicked (T a) l u none).filterMap ((T a).cps[·]?)).toArray⟩ : Str) = T (cutT a (l.map (·.1)) (u.map (·.1))) := by
      rw [hp]
    rw [e]
    exact ⟨by rw [T_len]; exact Nat.le_trans (cutT_le _ _ _) hz, q2⟩
theorem sl_str : SlR X rSlS := by
  intro pins s σ H x v vl vu lo hi sl Q I rx hs pl pu h
  obtain ⟨a, rfl, hz, q⟩ := h
  obtain ⟨t, rfl⟩ := rx
  refine ⟨"str", _, slot_str_getitem.lookup, typeIs_str s _ t, ?_⟩
  have fin1 : EP X pins σ Q (.str (T (cutT a lo hi)) t) s := ⟨.str (T (cutT a lo hi)), H, I, ⟨t, rfl⟩, q⟩
  have fin2 : EP X pins σ Q (.str (T (cutT a lo hi)) s.toks) { s with toks := s.toks + 1 } := ⟨.str (T (cutT a lo hi)), H, I.tok _, ⟨_, rfl⟩, q⟩
  cases pl with
  | none =>
    cases pu with
    | none => exact wpAny_getItem_str_slice (l := none) (u := none) (st := none) hs rfl (cut_made hz fin1 fin2)
    | int j tj => exact wpAny_getItem_str_slice (l := none) (u := some (j, tj)) (st := none) hs rfl (cut_made hz fin1 fin2)
  | int i ti =>
    cases pu with
    | none => exact wpAny_getItem_str_slice (l := some (i, ti)) (u := none) (st := none) hs rfl (cut_made hz fin1 fin2)
    | int j tj => exact wpAny_getItem_str_slice (l := some (i, ti)) (u := some (j, tj)) (st := none) hs rfl (cut_made hz fin1 fin2)
def rMulT : R2 := fun x y H Q => ∃ a k, x = .str (T a) ∧ y = .int k ∧ 0 ≤ k ∧ k ≤ 1000 ∧ a.length ≤ 1000 ∧ Q (.str (T (List.replicate k.toNat a).flatten)) H
theorem foldl_cps (a : List Nat) : ∀ (k : Nat) (acc : List Nat), List.foldl (fun x1 x2 => x1 ++ x2) acc.toArray (List.replicate k a.toArray) = (acc ++ (List.replicate k a).flatten).toArray
  | 0, acc => by simp
  | k + 1, acc => by
    have e : acc.toArray ++ a.toArray = (acc ++ a).toArray := by simp
    have e2 : (acc ++ a) ++ (List.replicate k a).flatten = acc ++ (List.replicate (k + 1) a).flatten := by
      rw [List.replicate_succ, List.flatten_cons, List.append_assoc]
    rw [← e2, ← foldl_cps a k (acc ++ a), ← e, List.replicate_succ, List.foldl_cons]
theorem mulT_eq (a : List Nat) {k : Int} (h0 : 0 ≤ k) : Txt.mul (T a) k = T (List.replicate k.toNat a).flatten := by
  unfold Txt.mul
  by_cases c : k < 1
  · rw [if_pos c]
    have e : k.toNat = 0 := by omega
    rw [e]; rfl
  · rw [if_neg c]
    by_cases d : (k == 1 || (T a).length == 0) = true
    · rw [if_pos d]
      rw [Bool.or_eq_true] at d
      rcases d with d | d
      · have e : k = 1 := by simpa using d
        subst e
        apply ext_toList
        rw [T_cps, T_cps]; simp
      · rw [T_len] at d
        have e : a = [] := by
          have := beq_iff_eq.mp d
          exact List.length_eq_zero_iff.mp this
        subst e
        apply ext_toList
        rw [T_cps, T_cps]; simp
    · rw [if_neg d]
      have := foldl_cps a k.toNat []
      rw [List.nil_append] at this
      show (⟨List.foldl (fun x1 x2 => x1 ++ x2) #[] (List.replicate k.toNat a.toArray)⟩ : Str) = _
      rw [show (#[] : Array Nat) = ([] : List Nat).toArray from rfl, this]
      rfl
theorem op_mulT : OpR X (binaryOp .Mult) rMulT := by
  intro pins s σ H x y v u Q I rx ry h
  obtain ⟨a, k, rfl, rfl, h0, h1, hz, q⟩ := h
  obtain ⟨t, rfl⟩ := rx
  obtain ⟨t', rfl⟩ := ry
  have hp : a.length * k.toNat ≤ 1000 * 1000 := Nat.mul_le_mul hz (by omega)
  refine PySem.SB.mul ⟨?_, ?_, ?_⟩ fun t' tk => ?_
  · have e1 : decide (k < -(2 ^ 63 : Int)) = false := decide_eq_false (by omega)
    have e2 : decide (k ≥ 2 ^ 63) = false := decide_eq_false (by omega)
    rw [e1, e2]; rfl
  · intro c _ hgt
    rw [T_len] at hgt
    have : (1000 : Int) ≤ (2 ^ 63 - 1) / k := (Int.le_ediv_iff_mul_le (by omega)).mpr (by omega)
    omega
  · intro _ _
    rw [T_len]
    unfold Builtin.Str.tooLong
    have hsl : sizeLine = 16777216 := sizeLine_eq
    exact decide_eq_false (by omega)
  · rw [mulT_eq a h0]
    exact ⟨.str (T (List.replicate k.toNat a).flatten), H, I.tok _, ⟨_, rfl⟩, q⟩
def rJoin (K : PySem.W.Frag) : V → List V → Hp → VK → Prop := fun x xs H Q => ∃ (p : Addr) (ys : List Str) (sep : Str), x = .str sep ∧ xs = [.ref p] ∧ SqL K H p (ys.map V.str) ∧
  (ys.map (·.length)).sum + ys.length * sep.length ≤ 16777216 ∧ Q (.str (Txt.join sep ys)) H
end
end L2

namespace L2
open PySem PySem.Spec PyProof.Rows
def Its (l : List Nat) : It := ⟨fun i _ => i < l.length, fun i H x H' => H' = H ∧ ∃ c, l[i]? = some c ∧ x = .str (T [c]), fun i _ => l.length ≤ i⟩
section
variable {X : Cx} {tg : Expr}
def iStr (tl : TE) : TI := fun σ H R => tl σ H fun x H1 => ∃ a, x = .str (T a) ∧ R (Its a) H1
theorem turn_str {P : Program} {w : World} {K : PySem.W.Frag} {tg : Expr} (it : Addr) (a : List Nat) (t : Tok) (ty : String) (hty : ty = "str_ascii_iterator" ∨ ty = "str_iterator") :
    Turn P w K tg (Its a) [it] it (fun i h => h.IsStrIter it ty (T a) t i) where
  mem := by simp
  obj := fun i h st b hb => by
    have e : b = it := by simpa using hb
    subst e
    obtain ⟨o, e, c, d⟩ := st
    exact ⟨o, e, fun v z => by rw [d] at z; cases z⟩
  keep := fun i h h' st k => by
    obtain ⟨o, e, r⟩ := st
    exact ⟨o, k it (by simp) o e, r⟩
  item := by
    intro X hP hw hK hc i pins s σ H E I hf st hg
    subst hP hw hK
    obtain ⟨f0, f1, f2, f3, f4, f5⟩ := hf it (by simp)
    have hi : i < a.length := hg
    have hx : (T a).cps[i]? = some a[i] := by simp [T, hi]
    have hn : ["enumerate", "zip", "dict_itemiterator", "dict_reverseitemiterator", "odict_iterator", "itertools.zip_longest", "itertools.pairwise"].contains ty = false := by
      rcases hty with rfl | rfl <;> decide
    have fin : ∀ h', h'.IsStrIter it ty (T a) t (i + 1) → Heap.SameBut it s.heap h' → ∃ u, (some (.str ⟨#[a[i]]⟩ s.toks) : Option Value) = some u ∧
        wpAny (model X.prog X.w) X.A (letOwnedTupleGo tg (.ref it) u) (fun _ s2 => ∃ x H', Inv X pins σ H' s2 ∧ RelV x u ∧ (Its a).yld i H x H' ∧ s2.heap.IsStrIter it ty (T a) t (i + 1) ∧ ∀ b ∈ [it], H' b = none) E { s with heap := h', toks := s.toks + 1 } := fun h' st' sb => by
      have I1 : Inv X pins σ H { s with heap := h', toks := s.toks + 1 } := I.turned (fun b o hb e => (sb.2 b hb).trans e) f0 f1 f3 f4 f5
      obtain ⟨o, e, c, d⟩ := id st'
      exact ⟨_, rfl, go_of (s := { s with heap := h', toks := s.toks + 1 }) e c d hn ⟨.str (T [a[i]]), H, I1, ⟨_, rfl⟩, ⟨rfl, a[i], by simp [hi], rfl⟩, st', fun b hb => (hf b hb).1⟩⟩
    rcases hty with rfl | rfl
    · exact wpAny_pyNext_ascii_item st hx fin
    · exact wpAny_pyNext_wide_item st hx fin
  done := by
    intro X hP hw hK hc i pins s σ H E I hf st hg
    subst hP hw hK
    obtain ⟨f0, f1, f2, f3, f4, f5⟩ := hf it (by simp)
    have hi : a.length ≤ i := hg
    have hx : (T a).cps[i]? = none := by simp [T]; omega
    have fin : ∀ h', Heap.ExtBut it s.heap h' → (none : Option Value) = none ∧ Inv X pins σ H { s with heap := h' } := fun h' eb => ⟨rfl, I.turned (t' := s.toks) (fun b o hb e => eb b o hb e) f0 f1 f3 f4 f5⟩
    rcases hty with rfl | rfl
    · exact wpAny_pyNext_ascii_end (I.ok.hd hc) st hx fin
    · exact wpAny_pyNext_wide_end (I.ok.hd hc) st hx fin
  self := fun _ _ _ _ _ st h => by
    rcases hty with rfl | rfl
    · exact wpAny_pyIter_striter_ascii st h
    · exact wpAny_pyIter_striter_wide st h
theorem pi_str {l : Expr} {tl : TE} (hl : PE X l tl) : PI X tg l (iStr tl) := by
  intro pins s σ H R I h
  refine thn (hl pins s σ H _ I h) fun v s1 ⟨x, H1, I1, r1, q1⟩ => ?_
  obtain ⟨a, e, q⟩ := q1
  subst e
  obtain ⟨t, rfl⟩ := r1
  have fin : ∀ ty : String, ty = "str_ascii_iterator" ∨ ty = "str_iterator" → PIE X pins σ tg R (.ref s1.heap.objs.size) { s1 with heap := s1.heap.push { cls := .type ty, data := .fields #[.str (T a) t, .int 0 0] } } := fun ty hty => by
    refine ⟨s1.heap.objs.size, [s1.heap.objs.size], _, _, H1, rfl, I1.kept (t' := s1.toks) fun b o e => Heap.get?_push_of_some _ e, turn_str _ a t ty hty, ⟨_, Heap.get?_push_size _ rfl, rfl, rfl⟩, fun b hb => ?_, q⟩
    have e : b = s1.heap.objs.size := by simpa using hb
    subst e
    exact I1.fpOk (Nat.le_refl _) (I1.hok.fresh (Nat.le_refl _))
  cases ha : (T a).cps.all (· < 128)
  · exact wpAny_pyIter_wide ha (fin _ (.inr rfl))
  · exact wpAny_pyIter_ascii ha (fin _ (.inl rfl))
end
theorem for_str {l : List Nat} {g : TG} {tb : TS} {D : Ends} {σ : St} {H : Hp} (Pv : Nat → St → Hp → Prop) (h0 : Pv 0 σ H)
    (hs : ∀ i c σ H, l[i]? = some c → Pv i σ H → g (.str (T [c])) σ H fun σ2 H2 => tb { D with nx := Pv (i + 1), ct := Pv (i + 1), bk := D.nx } σ2 H2) (hd : ∀ σ H, Pv l.length σ H → D.nx σ H) :
    ∃ W : Nat → Nat → St → Hp → Prop, (∃ m, W 0 m σ H) ∧ ∀ i m σ H, W i m σ H →
      ((Its l).stop i H ∧ D.nx σ H) ∨ ((Its l).go i H ∧ ∃ N : St → Hp → Prop, (∀ σ' H', N σ' H' → ∃ m', m' < m ∧ W (i + 1) m' σ' H') ∧ ∀ x H', (Its l).yld i H x H' → g x σ H' fun σ2 H2 => tb { D with nx := N, ct := N, bk := D.nx } σ2 H2) := by
  refine ⟨fun i m σ H => m = l.length - i ∧ i ≤ l.length ∧ Pv i σ H, ⟨l.length, by simp, Nat.zero_le _, h0⟩, ?_⟩
  rintro i m σ H ⟨rfl, hi, p⟩
  by_cases hlt : i < l.length
  · refine .inr ⟨hlt, Pv (i + 1), fun σ' H' p' => ⟨l.length - (i + 1), by omega, rfl, hlt, p'⟩, fun x H' y => ?_⟩
    obtain ⟨e, c, hc, rfl⟩ := y
    subst e
    exact hs i c σ _ hc p
  · have e : i = l.length := by omega
    subst e
    exact .inl ⟨Nat.le_refl _, hd σ H p⟩

section
variable {X : Cx}
def rIsi (K : PySem.W.Frag) : List V → Hp → VK → Prop := fun xs H Q => ∃ x n t b, xs = [x, .ty n] ∧ TyOf K H x t ∧ PySem.W.kitOne K t (.type n) = some b ∧ Q (.bl b) H
theorem call_isi : CallR X (.builtin "isinstance") (rIsi X.K) := by
  intro pins s σ H xs us Q I r h
  obtain ⟨x, n, t, b, rfl, ty, e, q⟩ := h
  obtain ⟨u, c, rfl, rx, rc⟩ := r.two
  cases rc
  exact isinst_ok I rx ty e fun tk => ⟨.bl b, H, I.tok _, rfl, q⟩
end
end L2

namespace L2
open PySem PySem.Spec PyProof.Rows
@[reducible] def cxComp (X : Cx) (scope : Scope) (cl : List (Str × Addr)) (N' : List Str) (C : Addr) (s₂ : Shared) (H₂ : Hp) (fp : List Addr) : Cx :=
  { prog := X.prog, w := X.w, K := X.K, mg := X.mg, base := X.base, A := X.A, N := N', s₀ := s₂, H₀ := H₂, env := compEnvC scope cl C X.env, outer := X.stack, stack := X.stack, ex := fp, fn := fun _ => false, calm := X.calm, pn := [], xe := fun _ _ => False }
def PTs (X : Cx) (ifs : List Expr) (t : TT) : Prop :=
  ∀ (pins : List (Addr × Obj)) (s : Shared) (σ : St) (H : Hp) (Q : Bool → Hp → Prop), Inv X pins σ H s → t σ H Q →
    wpAny (model X.prog X.w) X.A (forIn ifs true fun c r => if r = true then do let ok ← isTrue c X.env (eval c X.env); pure (ForInStep.yield ok) else pure (ForInStep.yield r)) (TP X pins σ Q) X.xe s
theorem pts_one {X : Cx} {c : Expr} {t : TT} (h : PT X c t) : PTs X [c] t := fun pins s σ H Q I hw => by
  rw [List.forIn_cons]
  simp only [if_true]
  refine wpAny_bind (wpAny_bind (thn (h pins s σ H Q I hw) fun ok s1 q => wpAny_pure ?_))
  show wpAny _ _ (pure ok) _ _ _
  exact wpAny_pure q
def drawn (σ : St) (fr : List (Nat × Str)) : St := fr.map fun p => (σ[p.1]?).getD none
def tComp (fr : List (Nat × Str)) (wi : TI) (tt : TT) (te : TE) : TE := fun σ H Q => wi σ H fun J H1 => ∃ W : Nat → Nat → List V → Hp → Prop, (∃ m, W 0 m [] H1) ∧ ∀ i m ys H, W i m ys H →
  (J.stop i H ∧ ys.length ≤ sizeLine ∧ ∀ p, H p = none → Q (.ref p) (upd H p (.lst ys))) ∨
  (J.go i H ∧ ys.length < sizeLine ∧ ∀ x H', J.yld i H x H' → tt (some x :: drawn σ fr) H' fun ok H2 => if ok = true then te (some x :: drawn σ fr) H2 fun y H3 => ∃ m', m' < m ∧ W (i + 1) m' (ys ++ [y]) H3 else ∃ m', m' < m ∧ W (i + 1) m' ys H2)
section
variable {X : Cx}
def AllIn {α : Type} (p : α → Prop) : List α → Prop
  | [] => True
  | a :: r => p a ∧ AllIn p r
theorem AllIn.of {α : Type} {p : α → Prop} : ∀ {l : List α}, AllIn p l → ∀ a ∈ l, p a
  | [], _, a, h => absurd h (by simp)
  | b :: r, ⟨h1, h2⟩, a, h => (List.mem_cons.mp h).elim (fun e => by rw [e]; exact h1) (AllIn.of h2 a)
structure CompOk (X : Cx) (scope : Scope) (cl : List (Str × Addr)) (x : Str) (fr : List (Nat × Str)) : Prop where
  clos : closureFor scope X.env = pure cl
  sub0 : AllIn (fun p : Str × Addr => X.env.cells.lookup p.1 = some p.2) cl
  cell : ∀ y ∈ scope.names, y.2 ≠ .cell
  kind : scope.kind = .function
  names : ∀ y ∈ scope.names, y.2 = .local → scope.names.lookup y.1 = some .local
  var : scope.names.lookup x = some .local
  frs0 : AllIn (fun p : Nat × Str => X.N[p.1]? = some p.2 ∧ X.env.kindOf p.2 = some .cell ∧ (cl.lookup p.2).isSome = true ∧ (relabel scope X.env).names.lookup p.2 = some .cell) fr
  has0 : ((relabel scope X.env).names.all fun p => (p.2 != .cell && p.2 != .free) || (cl.lookup p.1).isSome) = true
  nd : (x :: fr.map (·.2)).Nodup
theorem CompOk.sub {scope : Scope} {cl : List (Str × Addr)} {x : Str} {fr : List (Nat × Str)} (O : CompOk X scope cl x fr) : ∀ y c, cl.lookup y = some c → X.env.cells.lookup y = some c := fun y c e => O.sub0.of (y, c) (PySem.mem_of_lookup e)
theorem CompOk.frs {scope : Scope} {cl : List (Str × Addr)} {x : Str} {fr : List (Nat × Str)} (O : CompOk X scope cl x fr) :
    ∀ p ∈ fr, X.N[p.1]? = some p.2 ∧ X.env.kindOf p.2 = some .cell ∧ (∃ c, cl.lookup p.2 = some c) ∧ (relabel scope X.env).names.lookup p.2 ≠ some .local := fun p hp => by
  obtain ⟨h1, h2, h3, h4⟩ := O.frs0.of p hp
  exact ⟨h1, h2, Option.isSome_iff_exists.mp h3, by rw [h4]; exact fun z => nomatch z⟩
theorem CompOk.has {scope : Scope} {cl : List (Str × Addr)} {x : Str} {fr : List (Nat × Str)} (O : CompOk X scope cl x fr) :
    ∀ y, ((relabel scope X.env).names.lookup y = some .cell ∨ (relabel scope X.env).names.lookup y = some .free) → ∃ c, cl.lookup y = some c := fun y hy => by
  have key : ∀ k, (relabel scope X.env).names.lookup y = some k → (k = .cell ∨ k = .free) → ∃ c, cl.lookup y = some c := fun k e hk => by
    have z := List.all_eq_true.mp O.has0 (y, k) (PySem.mem_of_lookup e)
    rcases hk with rfl | rfl <;> exact Option.isSome_iff_exists.mp (by simpa using z)
  rcases hy with e | e
  · exact key _ e (.inl rfl)
  · exact key _ e (.inr rfl)
theorem pe_comp {elt iter : Expr} {ifs : List Expr} {x : Str} {px pos : Pos} {scope : Scope} {fr : List (Nat × Str)} {cl : List (Str × Addr)} {wi : TI} {tt : TT} {te : TE} (hc : X.calm = true) (O : CompOk X scope cl x fr)
    (hi : PI X (.Name x px) iter wi) (ht : ∀ (C : Addr) (s₂ : Shared) (H₂ : Hp) (fp : List Addr), PTs (cxComp X scope cl (x :: fr.map (·.2)) C s₂ H₂ fp) ifs tt)
    (he : ∀ (C : Addr) (s₂ : Shared) (H₂ : Hp) (fp : List Addr), PE (cxComp X scope cl (x :: fr.map (·.2)) C s₂ H₂ fp) elt te)
    (hs : ∀ x, foldedSetIterable iter X.env x = pure x := by intro _; rfl) :
    PE X (.ListComp elt [⟨.Name x px, iter, ifs, 0⟩] scope pos) (tComp fr wi tt te) := by
  intro pins s σ H Q I h
  rw [eval_ListComp]
  refine wpAny_comprehension_free (use := none) rfl hs O.clos O.kind O.names (thn (hi pins s σ H _ I h) fun v s1 h1 => thn h1 fun itv s2 h2 => ?_)
  obtain ⟨it, fp, tn, J, H2, e, I2, Tn, st2, f2, W, ⟨m0, w0⟩, turn⟩ := h2
  subst e
  refine wpAny_newObj_type (wpAny_newFunctionEnv O.cell (by intro y hy; simp at hy) (fun h₁ hns₁ hsb₁ => ?_) O.kind)
  dsimp only at hns₁ hsb₁ ⊢
  generalize hH2 : s2.heap.push { cls := .type "list", dict := none, data := .seq ([] : List Value).toArray } = HH at hns₁ hsb₁ ⊢
  have hC : HH.objs.size = s2.heap.objs.size + 1 := by rw [← hH2, Heap.size_push]
  have below : ∀ b, b < s2.heap.objs.size → b ≠ HH.objs.size ∧ b ≠ s2.heap.objs.size := fun b hb => ⟨by rw [hC]; exact Nat.ne_of_lt (Nat.lt_succ_of_lt hb), Nat.ne_of_lt hb⟩
  have hDC : s2.heap.objs.size ≠ HH.objs.size := by rw [hC]; exact Nat.ne_of_lt (Nat.lt_succ_self _)
  have old : ∀ b o, s2.heap.get? b = some o → h₁.get? b = some o := fun b o e => hsb₁.extBut b o (below b (Heap.lt_size e)).1 (Heap.get?_push_of_some _ (hH2 ▸ Heap.get?_push_of_some _ e))
  have hacc : h₁.get? s2.heap.objs.size = some { cls := .type "list", data := .seq ([] : List Value).toArray } := hsb₁.extBut _ _ hDC (Heap.get?_push_of_some _ (hH2 ▸ Heap.get?_push_size _ rfl))
  have hst₁ : tn 0 h₁ := Tn.keep _ _ _ st2 fun b _ o e => old b o e
  have fpl : ∀ b ∈ fp, b < s2.heap.objs.size := fun b hb => let ⟨o, e, _⟩ := Tn.obj _ _ st2 b hb; Heap.lt_size e
  -- the block's context
  generalize hY : cxComp X scope cl (x :: fr.map (·.2)) HH.objs.size s2 H2 fp = Y at *
  have okY : Y.Ok := by
    subst hY
    exact ⟨I2.ok.mod, O.kind, I2.ok.glob, I2.ok.blt, by rw [hC]; exact Nat.le_succ _, fun y z c h1 h2 => I2.ok.inj y z c (O.sub y c h1) (O.sub z c h2), fun y hy => O.has y hy, fun y c z _ => absurd (show false = true from z) Bool.false_ne_true, I2.ok.hd, I2.ok.frames, .inl rfl,
      fun b hb => ⟨(below b (fpl b hb)).1, fun y c e => (f2 b hb).2.2.2.2.1 y c (O.sub y c e)⟩, I2.bs, Nat.le_trans I2.ok.bsz I2.sz,
      fun b o e hb => by
        rcases (f2 b hb).2.2.2.1 with z | z
        · exact I2.ok.noex b o e z
        · exact absurd (Nat.lt_of_lt_of_le (Heap.lt_size e) (Nat.le_trans I2.ok.bsz z)) (Nat.lt_irrefl _),
      fun b hb z => (List.mem_cons.mp (I2.stkSub b z)).elim (f2 b hb).2.1 (f2 b hb).2.2.1, I2.stack, I2.stkFree⟩
  have drw : ∀ (m : Str → Option Value) (hh : Heap), (∀ b o, s2.heap.get? b = some o → hh.get? b = some o) → ∀ (i : Nat) (y : Str) (v : V), (x :: fr.map (·.2))[i]? = some y → ((none : Option V) :: drawn σ fr)[i]? = some (some v) →
      Vis Y.env.scope y → ∃ u, RelV v u ∧ Look Y.env hh m y u := fun m hh keep i y v e1 e2 e3 => by
    cases i with
    | zero => simp at e2
    | succ i =>
      simp only [List.getElem?_cons_succ] at e1 e2
      unfold drawn at e2
      rw [List.getElem?_map] at e1 e2
      cases ep : fr[i]? with
      | none => rw [ep] at e1; cases e1
      | some p =>
        rw [ep] at e1 e2
        have e1' : p.2 = y := Option.some.inj e1
        have e2' : (σ[p.1]?).getD none = some v := Option.some.inj e2
        subst e1'
        obtain ⟨q1, q2, ⟨c, q3⟩, q4⟩ := O.frs p (List.mem_of_getElem? ep)
        obtain ⟨mX, hnX, hlX⟩ := I2.loc
        have es : σ[p.1]? = some (some v) := by
          cases ez : σ[p.1]? with
          | none => rw [ez] at e2'; cases e2'
          | some z => rw [ez] at e2'; exact congrArg some e2'
        obtain ⟨u, r, l⟩ := hlX p.1 p.2 v q1 es (.inr (.inl q2))
        refine ⟨u, r, ?_⟩
        rcases l with ⟨k, _⟩ | ⟨k, c', e, o, ho, hd⟩
        · rw [q2] at k; cases k
        · have ec : c' = c := Option.some.inj (e.symm.trans (O.sub _ _ q3))
          subst ec
          subst hY
          refine .inr ⟨?_, c', q3, o, keep _ o ho, hd⟩
          rcases e3 with z | z
          · exact absurd z q4
          · exact z
  have hY0 : Y.s₀ = s2 ∧ Y.H₀ = H2 ∧ Y.fs = frs X.stack ∧ Y.ex = fp ∧ Y.env.locals = HH.objs.size ∧ Y.N = x :: fr.map (·.2) ∧ Y.env.cells = cl ∧ Y.pn = [] ∧ Y.prog = X.prog ∧ Y.w = X.w ∧ Y.K = X.K ∧ Y.calm = X.calm ∧ Y.A = X.A := by
    subst hY; exact ⟨rfl, rfl, rfl, rfl, rfl, rfl, rfl, rfl, rfl, rfl, rfl, rfl, rfl⟩
  obtain ⟨y1, y2, y3, y4, y5, y6, y7, y8, y9, y10, y11, y12, y13⟩ := hY0
  have cellAt : ∀ z c, cl.lookup z = some c → ∃ v, s2.heap.IsCell c v := fun z c e => I2.cell z c (O.sub z c e)
  have IY : Inv Y [] (none :: drawn σ fr) H2 { s2 with heap := h₁, toks := s2.toks + ([] : List (Str × Value)).length } := by
    refine ⟨okY, by rw [y1], I2.bare, by rw [y1, y2, y3, y4]; exact Un.kept old, ⟨_, by rw [y5]; exact hns₁, fun i z v e1 e2 e3 => drw _ h₁ old i z v (by rw [← y6]; exact e1) e2 e3⟩, fun z c e => ?_, ?_, fun z c e => ?_, fun p hp => ?_, ?_, ?_⟩
    · rw [y7] at e
      obtain ⟨v, o, ho, hd⟩ := cellAt z c e
      exact ⟨v, o, old c o ho, hd⟩
    · rw [y5]; exact I2.hok.fresh (by rw [hC]; exact Nat.le_succ _)
    · rw [y7] at e; exact I2.freeC z c (O.sub z c e)
    · rw [y8] at hp; exact absurd hp (by simp)
    · rw [y9, y10]; exact I2.hok.kept old
    · rw [y6]; simp [drawn]
  -- what may be said of the iterator's records and of the new list
  have fpY : ∀ {H' : Hp} {pl : List (Addr × Obj)}, (∀ b ∈ fp, H' b = none) → (∀ p ∈ pl, p.1 = s2.heap.objs.size) → ∀ b ∈ fp, FpOk Y pl H' b := fun hn hp b hb => by
    refine ⟨hn b hb, by rw [y5]; exact (below b (fpl b hb)).1, by rw [y3]; exact fun z => (List.mem_cons.mp (I2.stkSub b z)).elim (f2 b hb).2.1 (f2 b hb).2.2.1, .inl (by rw [y4]; exact hb), fun z c e => ?_, fun p hp' => ?_⟩
    · rw [y7] at e; exact (f2 b hb).2.2.2.2.1 z c (O.sub z c e)
    · rw [y8, List.nil_append] at hp'
      rw [hp p hp']
      exact Ne.symm (below b (fpl b hb)).2
  have cellD : ∀ z c, Y.env.cells.lookup z = some c → c ≠ s2.heap.objs.size := fun z c e q => by
    rw [y7] at e
    obtain ⟨v, o, ho, hd⟩ := cellAt z c e
    exact absurd (Heap.lt_size ho) (by rw [q]; exact Nat.lt_irrefl _)
  have notFs : s2.heap.objs.size ∉ Y.fs := by
    rw [y3]
    intro z
    rcases List.mem_cons.mp (I2.stkSub _ z) with q | q
    · exact absurd I2.lt (by rw [← q]; exact Nat.lt_irrefl _)
    · exact I2.nofs (Nat.le_refl _) q
  have loop : ∀ s₃ : Shared, s₃ = { s2 with heap := h₁, toks := s2.toks + ([] : List (Str × Value)).length } →
      codeAny (model X.prog X.w) X.A (.compLoop (.ListComp elt [⟨.Name x px, iter, ifs, 0⟩] scope pos) 0 (.ref it) (.ref s2.heap.objs.size) (compEnvC scope cl HH.objs.size X.env))
        (compPost (model X.prog X.w) X.A X.xe none (EP X pins σ Q) (.ref s2.heap.objs.size) HH.objs.size) s₃ := by
    rintro s₃ rfl
    have yenv : Y.env = compEnvC scope cl HH.objs.size X.env := by subst hY; rfl
    refine codeAny_compLoop_tests (fun n s' => ∃ i ys us H', ∃ nn : Nat, Inv Y [] (none :: drawn σ fr) H' s' ∧ tn i s'.heap ∧ (∀ b ∈ fp, H' b = none) ∧ H' s2.heap.objs.size = none ∧
      s'.heap.get? s2.heap.objs.size = some { cls := .type "list", data := .seq us.toArray nn } ∧ Vals ys us ∧ W i n ys H') ?_ m0
      ⟨0, [], [], H2, 0, IY, hst₁, fun b hb => (f2 b hb).1, I2.hok.fresh (Nat.le_refl _), hacc, .nil, w0⟩
    rintro n s3 ⟨i, ys, us, H3, nn, I3, st3, fr3, nD3, e3, rv3, w3⟩
    have lenU := rv3.length
    have I3p : Inv Y [(s2.heap.objs.size, { cls := .type "list", data := .seq us.toArray nn })] (none :: drawn σ fr) H3 s3 := I3.pins_of fun p hp => by
      have ep : p = (s2.heap.objs.size, { cls := .type "list", data := .seq us.toArray nn }) := by simpa using hp
      subst ep
      exact ⟨e3, nD3, by rw [y5]; exact hDC, notFs, fun v z => (nomatch z)⟩
    have onlyD : ∀ p ∈ ([(s2.heap.objs.size, { cls := .type "list", data := .seq us.toArray nn })] : List (Addr × Obj)), p.1 = s2.heap.objs.size := fun p hp => by
      have ep : p = (s2.heap.objs.size, { cls := .type "list", data := .seq us.toArray nn }) := by simpa using hp
      rw [ep]
    rcases turn i n ys H3 w3 with ⟨stop, hz, qn⟩ | ⟨go, hz, step⟩
    · have dn := Tn.done Y y9 y10 y11 (y12.trans hc) i _ s3 _ H3 (notedBy (model X.prog X.w) X.A (compEnvC scope cl HH.objs.size X.env) fun e s' => compPost (model X.prog X.w) X.A X.xe none (EP X pins σ Q) (.ref s2.heap.objs.size) HH.objs.size (.error e) s') I3p (fpY fr3 onlyD) st3 stop
      rw [y13] at dn
      refine thn dn fun r s4 hr => ?_
      obtain ⟨hr, I4⟩ := hr
      subst hr
      show ∃ m, s4.heap.Ns HH.objs.size m ∧ ∀ h', Heap.SameBut HH.objs.size s4.heap h' → EP X pins σ Q (.ref s2.heap.objs.size) { s4 with heap := h' }
      obtain ⟨m4, hn4, _⟩ := I4.loc
      rw [y5] at hn4
      obtain ⟨eD, nD, _⟩ := I4.pin _ (List.mem_append_right _ (List.mem_singleton.mpr rfl))
      refine ⟨m4, hn4, fun h' sb => ?_⟩
      have base4 := I4.base
      rw [y1, y2, y3, y4] at base4
      have hok4 := I4.hok
      rw [y9, y10] at hok4
      have free4 := I4.free
      rw [y5] at free4
      have eD' : h'.get? s2.heap.objs.size = some { cls := .type "list", data := .seq us.toArray nn } := (sb.2 _ hDC).trans eD
      have kp : ∀ b o, b < s2.heap.objs.size → s4.heap.get? b = some o → h'.get? b = some o := fun b o hb e => (sb.2 b (below b hb).1).trans e
      refine ⟨.ref s2.heap.objs.size, upd H3 s2.heap.objs.size (.lst ys), ?_, rfl, qn _ nD⟩
      refine I2.call' (s' := { s4 with heap := h' }) (ch := fp) (by have := I4.os; rw [y1] at this; exact this) ?_ ?_ I4.bare fun b hb => ?_
      · exact ⟨fun b o e n hb hx => kp b o (Heap.lt_size e) (base4.keep b o e n hb hx), fun b o e n hb hx => let ⟨sl, q⟩ := base4.slot b o e n hb hx; ⟨sl, kp b _ (Heap.lt_size e) q⟩,
          fun b o e n hx => by rw [upd_ne (below b (Heap.lt_size e)).2]; exact base4.free b o e n hx, fun b o e hx => let ⟨o', q⟩ := base4.there b o e hx; ⟨o', kp b o' (Heap.lt_size e) q⟩,
          fun b xs e => by rw [upd_ne (ne_of_none (base4.tups b xs e) nD)]; exact base4.tups b xs e, fun b o u e => by rw [upd_ne (ne_of_none (base4.frzs b o u e) nD)]; exact base4.frzs b o u e,
          fun b ps e => let ⟨mo, q⟩ := base4.tbls b ps e; ⟨mo, by rw [upd_ne (ne_of_none q nD)]; exact q⟩⟩
      · intro b o e
        by_cases hb : b = s2.heap.objs.size
        · subst hb
          rw [upd_same] at e; cases e
          exact ⟨hz, us, nn, rv3, eD'⟩
        · rw [upd_ne hb] at e
          refine (hok4 b o e).stay (fun c u hcc q => (sb.2 c ?_).trans q) (fun c q => by rw [upd_ne (ne_of_none q nD)]; exact q) fun c xs q => by rw [upd_ne (ne_of_none q nD)]; exact q
          rcases hcc with z | z
          · rw [z]; exact ne_of_none e free4
          · exact ne_of_none z free4
      · exact ⟨(f2 b hb).2.2.2.1, (f2 b hb).2.1, (f2 b hb).2.2.2.2.1, (f2 b hb).2.2.2.2.2⟩
    · have nx := Tn.item Y y9 y10 y11 (y12.trans hc) i _ s3 _ H3 (notedBy (model X.prog X.w) X.A (compEnvC scope cl HH.objs.size X.env) fun e s' => compPost (model X.prog X.w) X.A X.xe none (EP X pins σ Q) (.ref s2.heap.objs.size) HH.objs.size (.error e) s') I3p (fpY fr3 onlyD) st3 go
      rw [y13] at nx
      refine thn nx fun r s4 hr => ?_
      obtain ⟨u, hr, h4⟩ := hr
      subst hr
      -- the clause's target is a name: nothing is let go
      show wpAny (model X.prog X.w) X.A (letOwnedTupleGo (.Name x px) (.ref it) u >>= fun _ => assign (.Name x px) (compEnvC scope cl HH.objs.size X.env) u) _ _ s4
      refine wpAny_bind (thn h4 fun _ s5 h5 => ?_)
      obtain ⟨xv, H5, I5, r5, y5', st5, fr5⟩ := h5
      have I5' := I5.pinned (fpY fr5 onlyD) (Tn.obj _ _ st5)
      have ndY : Y.N.Nodup := by rw [y6]; exact O.nd
      have varY : Loc Y.env.scope x := .inl (by subst hY; exact lookup_relabel_local O.var)
      refine wpAny_assign_Name ?_
      rw [← yenv]
      refine store_ok (i := 0) I5' ndY (by rw [y6]; rfl) varY r5 (fun s6 I6 => ?_) (.inr (by subst hY; exact lookup_relabel_local O.var))
      have I6' : Inv Y _ (some xv :: drawn σ fr) H5 s6 := I6
      have tsY := ht HH.objs.size s2 H2 fp
      rw [hY] at tsY
      have tw := tsY _ s6 _ H5 _ I6' (step xv H5 y5')
      rw [y9, y10, y13] at tw
      refine wpAny_mono tw (fun ok s7 h7 => ?_) fun e s' z => ?_
      · obtain ⟨H7, I7, q7⟩ := h7
        have stay : ∀ {s8 : Shared} {H8 : Hp}, Inv Y ([(s2.heap.objs.size, { cls := .type "list", data := .seq us.toArray nn })] ++ pinsAt fp s5.heap) (some xv :: drawn σ fr) H8 s8 → tn (i + 1) s8.heap ∧ (∀ b ∈ fp, H8 b = none) ∧
            H8 s2.heap.objs.size = none ∧ s8.heap.get? s2.heap.objs.size = some { cls := .type "list", data := .seq us.toArray nn } ∧ Inv Y [] (none :: drawn σ fr) H8 s8 := fun {s8 H8} I8 => by
          have pD := I8.pin (s2.heap.objs.size, _) (List.mem_append_right _ (List.mem_append_left _ (List.mem_singleton.mpr rfl)))
          refine ⟨Tn.keep _ _ _ st5 fun b hb o e => (I8.pin (b, o) (List.mem_append_right _ (List.mem_append_right _ (mem_pinsAt hb e)))).1, fun b hb => ?_, pD.2.1, pD.1, ?_⟩
          · obtain ⟨o, e, d⟩ := Tn.obj _ _ st5 b hb
            exact (I8.pin (b, o) (List.mem_append_right _ (List.mem_append_right _ (mem_pinsAt hb e)))).2.1
          · refine (I8.pins_of (pins' := []) fun p hp => absurd hp (by simp)).weak rfl fun j v e => ?_
            cases j with
            | zero => simp at e
            | succ j => simpa using e
        cases ok with
        | false =>
          rw [if_neg Bool.false_ne_true] at q7 ⊢
          obtain ⟨m', hm, w7⟩ := q7
          obtain ⟨a1, a2, a3, a4, a5⟩ := stay I7
          exact ⟨m', hm, i + 1, ys, us, H7, nn, a5, a1, a2, a3, a4, rv3, w7⟩
        | true =>
          rw [if_pos rfl] at q7 ⊢
          have elY := he HH.objs.size s2 H2 fp
          rw [hY] at elY
          have ew := elY _ s7 _ H7 _ I7 q7
          rw [y9, y10, y13] at ew
          refine wpAny_mono ew (fun yv s8 h8 => ?_) fun e s' z => ?_
          · obtain ⟨y', H8, I8, r8, m', hm, w8⟩ := h8
            obtain ⟨a1, a2, a3, a4, a5⟩ := stay I8
            refine call_meets F.slot_list_append ⟨_, a4, rfl⟩ F.entry_list_append (F.args_list_append_2 _ _) (PySem.list_append s2.heap.objs.size us.toArray nn yv (by rw [List.size_toArray]; omega)) ⟨a4, ?_⟩
            have up := PySem.IsL.update a4 (fun z => z.push yv)
            have ea : (us.toArray.push yv) = (us ++ [yv]).toArray := by simp
            rw [ea] at up
            refine ⟨m', hm, i + 1, ys ++ [y'], us ++ [yv], H8, _, a5.turned (it := s2.heap.objs.size) (fun b o hb e => (Heap.get?_update_other _ _ (Ne.symm hb)).trans e) a3 (by rw [y5]; exact hDC) (.inr (by rw [y1]; exact Nat.le_refl _)) cellD (fun p hp => by rw [y8] at hp; exact absurd hp (by simp)),
              Tn.keep _ _ _ a1 fun b hb o e => (Heap.get?_update_other _ _ (Ne.symm (below b (fpl b hb)).2)).trans e, a2, a3, up, rv3.append (.cons r8 .nil), w8⟩
          · subst hY; exact z.elim
      · subst hY; exact z.elim
  have cenvEq : codeAny (model X.prog X.w) X.A (.compStart (.ListComp elt [⟨.Name x px, iter, ifs, 0⟩] scope pos) 0 (.ref it) (.ref s2.heap.objs.size) (compEnvC scope cl HH.objs.size X.env))
        (compPost (model X.prog X.w) X.A X.xe none (EP X pins σ Q) (.ref s2.heap.objs.size) HH.objs.size) { s2 with heap := h₁, toks := s2.toks + ([] : List (Str × Value)).length } :=
    codeAny_compStart_list (loop _ rfl) (Tn.self X.A 0 _ _ _ hst₁ (loop _ rfl))
  exact cenvEq
end
end L2

namespace L2
open PySem PySem.Spec PyProof.Rows
structure Def (P : Program) (w : World) (K : PySem.W.Frag) (mg : Str → Option Value) (base : Heap) (k : Nat) (x : Str) (ps : List Str) (sp : Sp) : Prop where
  ex : ∃ (f : Addr) (fd : FuncData), FnOk P w K mg base CX0 k f fd ps sp ∧ Binds K fd ps [] ∧ PySem.W.keepIn K (.ref f) = true ∧ mg x = some (.ref f)
structure Src (K : PySem.W.Frag) (mg : Str → Option Value) (x : Str) (st : Stmt) : Prop where
  ex : ∃ (f : Addr) (fd : FuncData), Fun K x x st f fd ∧ mg x = some (.ref f)
theorem Src.is {P : Program} {w : World} {K : PySem.W.Frag} {mg : Str → Option Value} {base : Heap} {k : Nat} {x : Str} {st : Stmt} {ps : List Str} {sp : Sp} (S : Src K mg x st)
    (hb : ∀ (kV doc pm : Value) (an : Option Addr) (cdv ct : Value) (us : List Value), us.length = ps.length → bindArgs (PySem.W.fnOf x x (defArgs st) (defBody st) (defScope st) .none kV doc pm an cdv ct) ⟨us, []⟩ = pure (ps.zip us))
    (ok : ∀ (f : Addr) (fd : FuncData), Fun K x x st f fd → FnOk P w K mg base CX0 k f fd ps sp) : Def P w K mg base k x ps sp := by
  obtain ⟨f, fd, F, hm⟩ := S.ex
  exact ⟨f, fd, ok f fd F, F.binds hb, F.kp, hm⟩
section
variable {X : Cx} {x : Str} {p pos : Pos} {e : Expr} {es : List Expr} {t : TA}
theorem pe_callD {j k : Nat} {ps : List Str} {sp : Sp} (D : Def X.prog X.w X.K X.mg X.base j x ps sp) (hr : Room k X.A) (hg : Gl X x) (ha : PA X (e :: es) t) (hj : j ≤ k := by decide) (hdb : (x == ("__debug__" : Str)) = false := by decide)
    (he : starEach (e :: es) X.env = (false, eval e X.env) :: starEach es X.env := by rfl) (hpl : (backTo pos (starEach es X.env)).any (·.1) = false := by rfl) :
    PE X (.Call (.Name x p) (e :: es) [] pos) (tCall sp [] E0 t) := by
  obtain ⟨f, fd, F, hb, hk, hm⟩ := D.ex
  exact pe_call F (hr.mono hj) hg hm hk hb .nil pass0 ha hdb he hpl
theorem pe_const {v : V} (h : ∃ u, X.mg x = some u ∧ RelV v u) (hg : Gl X x := by rfl) (hd : (x == ("__debug__" : Str)) = false := by decide) : PE X (.Name x pos) (tC v) := by
  obtain ⟨u, hm, r⟩ := h
  exact pe_glob hg hm r hd
theorem pe_strT (l : List Nat) {j : Nat} (h : x = T l := by decide +kernel) : PE X (.Constant (.str x) j pos) (tC (.str (T l))) := by
  subst h
  exact pe_str
end
def tVia (t u : TS) : TS := fun D σ H => ∃ Mid : St → Hp → Prop, t { D with nx := Mid } σ H ∧ ∀ σ' H', Mid σ' H' → u D σ' H'
theorem pss_via {X : Cx} {st : Stmt} {rest : List Stmt} {t u : TS} (h1 : PS X st t) (h2 : PSs X rest u) : PSs X (st :: rest) (tVia t u) := by
  intro pins s σ H D I h
  obtain ⟨Mid, h, hm⟩ := h
  refine wpAny_execs_cons (thn (h1 pins s σ H { D with nx := Mid } I h) fun f s1 q => ?_)
  cases f with
  | next =>
    obtain ⟨σ', H', I', q⟩ := q
    exact h2 pins s1 σ' H' D I' (hm σ' H' q)
  | ret v => exact q
  | brk => exact q
  | cont => exact q
theorem if_no {p A B : Prop} [Decidable p] (h : ¬ p) (b : B) : if decide p = true then A else B := by
  rw [decide_eq_false h]; exact iteF b
theorem if_yes {p A B : Prop} [Decidable p] (h : p) (a : A) : if decide p = true then A else B := by
  rw [decide_eq_true h]; exact iteT a
theorem if_dec {p A B : Prop} [Decidable p] (h1 : p → A) (h2 : ¬ p → B) : if decide p = true then A else B := by
  by_cases h : p
  · exact if_yes h (h1 h)
  · exact if_no h (h2 h)
theorem ifn_no {p A B : Prop} [Decidable p] (h : p) (b : B) : if (!decide p) = true then A else B := by
  rw [decide_eq_true h]; exact iteF b
theorem ifn_yes {p A B : Prop} [Decidable p] (h : ¬ p) (a : A) : if (!decide p) = true then A else B := by
  rw [decide_eq_false h]; exact iteT a
theorem ifn_dec {p A B : Prop} [Decidable p] (h1 : ¬ p → A) (h2 : p → B) : if (!decide p) = true then A else B := by
  by_cases h : p
  · exact ifn_no h (h2 h)
  · exact ifn_yes h (h1 h)
theorem sz {n : Nat} (h : n ≤ 1000) : n ≤ sizeLine := Nat.le_of_lt (small1000 h)
end L2

set_option maxHeartbeats 1000000
namespace Lamp
def P (f : Int → Nat) (p : Int) : Prop := ∀ i, f (i + p) = f i
theorem P.neg {f : Int → Nat} {p : Int} (h : P f p) : P f (-p) := fun i => by
  have := h (i + -p)
  rw [show i + -p + p = i by omega] at this
  exact this.symm
theorem P.add {f : Int → Nat} {p q : Int} (h : P f p) (h' : P f q) : P f (p + q) := fun i => by
  rw [← Int.add_assoc, h', h]
theorem P.zero {f : Int → Nat} : P f 0 := fun i => by rw [Int.add_zero]
theorem P.nmul {f : Int → Nat} {p : Int} (h : P f p) : ∀ n : Nat, P f ((n : Int) * p)
  | 0 => by rw [Int.natCast_zero, Int.zero_mul]; exact P.zero
  | n + 1 => by
    have e : ((n + 1 : Nat) : Int) * p = (n : Int) * p + p := by rw [Int.natCast_add, Int.add_mul, Int.natCast_one, Int.one_mul]
    rw [e]
    exact (P.nmul h n).add h
theorem P.mul {f : Int → Nat} {p : Int} (h : P f p) (k : Int) : P f (k * p) := by
  rcases Int.eq_nat_or_neg k with ⟨n, rfl | rfl⟩
  · exact h.nmul n
  · rw [Int.neg_mul]; exact (h.nmul n).neg
theorem P.mod {f : Int → Nat} {p q : Int} (h : P f p) (h' : P f q) : P f (q % p) := by
  have e : q % p = q + -(q / p) * p := by rw [Int.emod_def, Int.mul_comm p, Int.neg_mul, Int.sub_eq_add_neg]
  rw [e]
  exact h'.add (h.mul _)
theorem P.gcd {f : Int → Nat} : ∀ (m n : Nat), P f m → P f n → P f (Nat.gcd m n : Nat) := by
  intro m n
  induction m, n using Nat.gcd.induction with
  | H0 n => intro _ h; rw [Nat.gcd_zero_left]; exact h
  | H1 m n hm ih =>
    intro h1 h2
    rw [Nat.gcd_rec]
    refine ih ?_ h1
    rw [Int.natCast_emod]
    exact h1.mod h2
theorem P.shift {f : Int → Nat} {p : Int} (h : P f p) (a : Int) : P (fun i => f (a + i)) p := fun i => by
  show f (a + (i + p)) = f (a + i)
  rw [← Int.add_assoc]; exact h _
theorem P.rest {f : Int → Nat} {p : Int} (h : P f p) (i : Int) : f (i % p) = f i := by
  have e : i % p = i + -(i / p) * p := by rw [Int.emod_def, Int.mul_comm p, Int.neg_mul, Int.sub_eq_add_neg]
  rw [e]; exact h.mul _ i

def at' (l : List Nat) (m : Int) : Nat := l.getD (m % (l.length : Int)).toNat 0
theorem at_per (l : List Nat) : P (at' l) (l.length : Int) := fun i => by
  unfold at'
  rw [show (i + (l.length : Int)) % (l.length : Int) = i % (l.length : Int) by simp]
theorem at_nat {l : List Nat} {i : Nat} (h : i < l.length) : at' l (i : Int) = l[i] := by
  unfold at'
  have e : ((i : Int) % (l.length : Int)).toNat = i := by
    rw [Int.emod_eq_of_lt (by omega) (by omega)]; omega
  rw [e, List.getD_eq_getElem?_getD, List.getElem?_eq_getElem h]; rfl
theorem at_get {l : List Nat} {i : Nat} (h : i < l.length) : l[i]? = some (at' l (i : Int)) := by
  rw [at_nat h, List.getElem?_eq_getElem h]
def sight (l : List Nat) (m : Int) (n : Nat) : List Nat := (List.range n).map fun (k : Nat) => at' l (m + (k : Int))
def rep (k : Nat) (w : List Nat) : List Nat := (List.replicate k w).flatten
theorem rep_len (k : Nat) (w : List Nat) : (rep k w).length = k * w.length := by
  unfold rep
  induction k with
  | zero => simp
  | succ k ih => rw [List.replicate_succ, List.flatten_cons, List.length_append, ih, Nat.succ_mul, Nat.add_comm]
theorem rep_get (w : List Nat) : ∀ (k i : Nat), i < k * w.length → (rep k w)[i]? = w[i % w.length]?
  | 0, i, h => by rw [Nat.zero_mul] at h; omega
  | k + 1, i, h => by
    unfold rep
    rw [List.replicate_succ, List.flatten_cons]
    by_cases hi : i < w.length
    · rw [List.getElem?_append_left hi, Nat.mod_eq_of_lt hi]
    · rw [List.getElem?_append_right (by omega)]
      have h2 : i - w.length < k * w.length := by rw [Nat.succ_mul] at h; omega
      have := rep_get w k (i - w.length) h2
      unfold rep at this
      rw [this, Nat.mod_eq_sub_mod (a := i) (by omega)]
def isPer (l : List Nat) (d : Nat) : Bool := decide (l.length % d = 0) && decide (rep (l.length / d) (l.take d) = l)
theorem dvd_le {d n : Nat} (hn : 0 < n) (h : n % d = 0) : d ≤ n := Nat.le_of_dvd hn (Nat.dvd_of_mod_eq_zero h)
theorem at_nat_mod {l : List Nat} (hl : l ≠ []) (i : Int) : at' l i = at' l (((i % (l.length : Int)).toNat : Nat) : Int) := by
  have h0 : 0 < l.length := List.length_pos_iff.mpr hl
  have h1 := Int.emod_nonneg i (show (l.length : Int) ≠ 0 by omega)
  rw [show (((i % (l.length : Int)).toNat : Nat) : Int) = i % (l.length : Int) by omega]
  exact ((at_per l).rest i).symm
theorem isPer_iff {l : List Nat} {d : Nat} (hl : l ≠ []) (hd : 1 ≤ d) : isPer l d = true ↔ l.length % d = 0 ∧ P (at' l) (d : Int) := by
  have h0 : 0 < l.length := List.length_pos_iff.mpr hl
  unfold isPer
  rw [Bool.and_eq_true, decide_eq_true_iff, decide_eq_true_iff]
  refine and_congr_right fun hm => ?_
  have hle : d ≤ l.length := dvd_le h0 hm
  have htl : (l.take d).length = d := by rw [List.length_take]; omega
  have hmul : l.length / d * d = l.length := Nat.div_mul_cancel (Nat.dvd_of_mod_eq_zero hm)
  have hget : ∀ i : Nat, i < l.length → (rep (l.length / d) (l.take d))[i]? = some (at' l ((i % d : Nat) : Int)) := fun i hi => by
    have hi2 : i % d < d := Nat.mod_lt _ (by omega)
    rw [rep_get _ _ _ (by rw [htl, hmul]; exact hi), htl, List.getElem?_take_of_lt hi2]
    exact at_get (by omega)
  constructor
  · intro h
    -- every sign is that at the rest by d
    have key : ∀ i : Nat, i < l.length → at' l (i : Int) = at' l ((i % d : Nat) : Int) := fun i hi => by
      have e := hget i hi
      rw [h, at_get hi] at e
      exact Option.some.inj e
    have all : ∀ i : Int, at' l i = at' l (i % (d : Int)) := fun i => by
      have h1 := Int.emod_nonneg i (show (l.length : Int) ≠ 0 by omega)
      have h2 := Int.emod_lt_of_pos i (show (0 : Int) < (l.length : Int) by omega)
      rw [at_nat_mod hl i, key _ (by omega)]
      refine congrArg (at' l) ?_
      rw [Int.natCast_emod, show (((i % (l.length : Int)).toNat : Nat) : Int) = i % (l.length : Int) by omega]
      exact Int.emod_emod_of_dvd i (Int.natCast_dvd_natCast.mpr (Nat.dvd_of_mod_eq_zero hm))
    intro i
    rw [all (i + (d : Int)), all i, show (i + (d : Int)) % (d : Int) = i % (d : Int) by simp]
  · intro h
    refine List.ext_getElem? fun i => ?_
    by_cases hi : i < l.length
    · rw [hget i hi, at_get hi]
      refine congrArg some ?_
      rw [Int.natCast_emod]
      exact h.rest _
    · rw [List.getElem?_eq_none (by rw [rep_len, htl, hmul]; omega), List.getElem?_eq_none (by omega)]
structure IsMeas (l : List Nat) (d : Nat) : Prop where
  pos : 1 ≤ d
  le : d ≤ l.length
  per : isPer l d = true
  min : ∀ e, 1 ≤ e → e < d → isPer l e = false
theorem isPer_whole {l : List Nat} (hl : l ≠ []) : isPer l l.length = true := by
  have h0 : 0 < l.length := List.length_pos_iff.mpr hl
  refine (isPer_iff hl h0).mpr ⟨Nat.mod_self _, at_per l⟩
theorem IsMeas.ne {l : List Nat} {d : Nat} (h : IsMeas l d) : l ≠ [] := by
  intro e; subst e; have := h.le; have := h.pos; simp at *; omega
theorem IsMeas.P {l : List Nat} {d : Nat} (h : IsMeas l d) : P (at' l) (d : Int) := ((isPer_iff h.ne h.pos).mp h.per).2
theorem IsMeas.mod {l : List Nat} {d : Nat} (h : IsMeas l d) : l.length % d = 0 := ((isPer_iff h.ne h.pos).mp h.per).1
theorem IsMeas.dvd {l : List Nat} {d p : Nat} (h : IsMeas l d) (hp : Lamp.P (at' l) (p : Int)) : d ∣ p := by
  have g := Lamp.P.gcd d p h.P hp
  have g1 : 1 ≤ Nat.gcd d p := Nat.gcd_pos_of_pos_left _ h.pos
  have g2 : Nat.gcd d p ∣ d := Nat.gcd_dvd_left _ _
  have g3 : l.length % Nat.gcd d p = 0 := Nat.mod_eq_zero_of_dvd (Nat.dvd_trans g2 (Nat.dvd_of_mod_eq_zero h.mod))
  have g4 := (isPer_iff h.ne g1).mpr ⟨g3, g⟩
  by_cases e : Nat.gcd d p < d
  · rw [h.min _ g1 e] at g4; cases g4
  · have e2 : Nat.gcd d p = d := Nat.le_antisymm (Nat.le_of_dvd h.pos g2) (by omega)
    rw [← e2]; exact Nat.gcd_dvd_right _ _
theorem meas_same {a b : List Nat} {d e : Nat} {m k : Int} (ha : IsMeas a d) (hb : IsMeas b e) (h : ∀ i : Int, at' a (m + i) = at' b (k + i)) : d = e := by
  have p1 : P (at' b) (d : Int) := fun i => by
    have h1 := h (i + (d : Int) - k)
    have h2 := h (i - k)
    rw [show k + (i + (d : Int) - k) = i + (d : Int) by omega] at h1
    rw [show k + (i - k) = i by omega] at h2
    rw [← h1, ← h2, show m + (i + (d : Int) - k) = m + (i - k) + (d : Int) by omega]
    exact ha.P _
  have p2 : P (at' a) (e : Int) := fun i => by
    have h1 := h (i + (e : Int) - m)
    have h2 := h (i - m)
    rw [show m + (i + (e : Int) - m) = i + (e : Int) by omega] at h1
    rw [show m + (i - m) = i by omega] at h2
    rw [h1, h2, show k + (i + (e : Int) - m) = k + (i - m) + (e : Int) by omega]
    exact hb.P _
  exact Nat.dvd_antisymm (ha.dvd p2) (hb.dvd p1)
theorem meas_uniq {a : List Nat} {d e : Nat} (ha : IsMeas a d) (hb : IsMeas a e) : d = e := meas_same (m := 0) (k := 0) ha hb fun _ => rfl
theorem take_at {l : List Nat} {d : Nat} (h1 : 1 ≤ d) (h2 : d ≤ l.length) (h : P (at' l) (d : Int)) (i : Int) : at' (l.take d) i = at' l i := by
  have htl : (l.take d).length = d := by rw [List.length_take]; omega
  have q1 := Int.emod_nonneg i (show (d : Int) ≠ 0 by omega)
  have q2 := Int.emod_lt_of_pos i (show (0 : Int) < (d : Int) by omega)
  rw [← h.rest i]
  unfold at'
  rw [htl, List.getD_eq_getElem?_getD, List.getD_eq_getElem?_getD, List.getElem?_take_of_lt (by omega)]
  have e : (i % (d : Int)) % (l.length : Int) = i % (d : Int) := Int.emod_eq_of_lt q1 (by omega)
  rw [e]
theorem IsMeas.of_first {l : List Nat} {d : Nat} (hd : 1 ≤ d) (hl : l ≠ []) (hp : isPer l d = true) (hn : ∀ e, 1 ≤ e → e < d → isPer l e = false) : IsMeas l d := by
  have h0 : 0 < l.length := List.length_pos_iff.mpr hl
  exact ⟨hd, dvd_le h0 ((isPer_iff hl hd).mp hp).1, hp, hn⟩
theorem IsMeas.whole {l : List Nat} (hl : l ≠ []) (hn : ∀ e, 1 ≤ e → e < l.length → isPer l e = false) : IsMeas l l.length :=
  .of_first (List.length_pos_iff.mpr hl) hl (isPer_whole hl) hn
theorem IsMeas.ex {l : List Nat} (hl : l ≠ []) : ∃ d, IsMeas l d := by
  have h0 : 0 < l.length := List.length_pos_iff.mpr hl
  have go : ∀ k, k ≤ l.length → (∀ e, 1 ≤ e → e < l.length - k + 1 → isPer l e = false) ∨ ∃ d, IsMeas l d := by
    intro k
    induction k with
    | zero =>
      intro _
      by_cases hx : ∀ e, 1 ≤ e → e < l.length → isPer l e = false
      · exact .inr ⟨_, .whole hl hx⟩
      · refine .inr ?_
        -- the least of those that hold
        have least : ∀ n, (∃ e, 1 ≤ e ∧ e ≤ n ∧ isPer l e = true) → ∃ d, IsMeas l d := by
          intro n
          induction n with
          | zero => rintro ⟨e, h1, h2, _⟩; omega
          | succ n ih =>
            rintro ⟨e, h1, h2, h3⟩
            by_cases hh : ∃ e, 1 ≤ e ∧ e ≤ n ∧ isPer l e = true
            · exact ih hh
            · have he : e = n + 1 := by
                by_cases e2 : e ≤ n
                · exact absurd ⟨e, h1, e2, h3⟩ hh
                · omega
              subst he
              refine ⟨n + 1, .of_first h1 hl h3 fun e' q1 q2 => ?_⟩
              cases q : isPer l e' with
              | false => rfl
              | true => exact absurd ⟨e', q1, by omega, q⟩ hh
        exact least l.length ⟨l.length, h0, Nat.le_refl _, isPer_whole hl⟩
    | succ k ih =>
      intro hk
      rcases ih (by omega) with h | h
      · exact .inl fun e h1 h2 => h e h1 (by omega)
      · exact .inr h
  rcases go 0 (Nat.zero_le _) with h | h
  · have := h l.length h0 (by omega)
    rw [isPer_whole hl] at this; cases this
  · exact h
theorem take_ne {l : List Nat} {d : Nat} (hd : 1 ≤ d) (hl : l ≠ []) : l.take d ≠ [] := by
  have h0 : 0 < l.length := List.length_pos_iff.mpr hl
  intro e
  have h1 := congrArg List.length e
  rw [List.length_take] at h1
  have h2 : ([] : List Nat).length = 0 := rfl
  omega
theorem IsMeas.take {l : List Nat} {d : Nat} (h : IsMeas l d) : IsMeas (l.take d) d := by
  obtain ⟨e, he⟩ := IsMeas.ex (take_ne h.pos h.ne)
  have := meas_same (m := 0) (k := 0) he h fun i => take_at h.pos h.le h.P (0 + i)
  rw [this] at he; exact he
theorem at_twice {l : List Nat} (i : Int) : at' (l ++ l) i = at' l i := by
  by_cases hl : l = []
  · subst hl; rfl
  have h0 : 0 < l.length := List.length_pos_iff.mpr hl
  have hne : l ++ l ≠ [] := by simp [hl]
  have len : (l ++ l).length = l.length + l.length := List.length_append
  rw [at_nat_mod hne i]
  have h1 := Int.emod_nonneg i (show ((l ++ l).length : Int) ≠ 0 by omega)
  have h2 := Int.emod_lt_of_pos i (show (0 : Int) < ((l ++ l).length : Int) by omega)
  have hr : ∃ j : Nat, i % ((l ++ l).length : Int) = (j : Int) := ⟨(i % ((l ++ l).length : Int)).toNat, by omega⟩
  obtain ⟨j, hj⟩ := hr
  rw [hj, Int.toNat_natCast]
  have hjl : j < l.length + l.length := by omega
  have hi : at' l i = at' l (j : Int) := by
    have e : (i % ((l ++ l).length : Int)) % (l.length : Int) = i % (l.length : Int) := by
      refine Int.emod_emod_of_dvd i ?_
      rw [len]
      exact Int.natCast_dvd_natCast.mpr ⟨2, by omega⟩
    rw [← (at_per l).rest i, ← e, hj]
    exact (at_per l).rest _
  rw [hi]
  have g : (l ++ l)[j]? = some (at' (l ++ l) (j : Int)) := at_get (by omega)
  by_cases hj2 : j < l.length
  · rw [List.getElem?_append_left hj2, at_get hj2] at g
    exact (Option.some.inj g).symm
  · rw [List.getElem?_append_right (by omega), at_get (by omega)] at g
    have e2 : at' l ((j - l.length : Nat) : Int) = at' l (j : Int) := by
      have := at_per l ((j - l.length : Nat) : Int)
      rw [show (((j - l.length : Nat) : Int) + (l.length : Int)) = (j : Int) by omega] at this
      exact this.symm
    rw [← e2]
    exact (Option.some.inj g).symm
theorem IsMeas.twice {l : List Nat} {d : Nat} (h : IsMeas l d) : IsMeas (l ++ l) d := by
  have hne : l ++ l ≠ [] := by have := h.ne; simp [this]
  obtain ⟨e, he⟩ := IsMeas.ex hne
  have := meas_same (m := 0) (k := 0) he h fun i => at_twice (0 + i)
  rw [this] at he; exact he
end Lamp

set_option maxHeartbeats 1000000
namespace Lamp
theorem agree_nat {f g : Int → Nat} {p q : Nat} (hp : 1 ≤ p) (hq : 1 ≤ q) (hf : P f p) (hg : P g q) (h : ∀ i : Nat, i < p + q → f (i : Int) = g (i : Int)) : ∀ i : Nat, f (i : Int) = g (i : Int) := by
  intro i
  induction i using Nat.strongRecOn with
  | _ i ih =>
    by_cases hi : i < p + q
    · exact h i hi
    · have e1 : f (i : Int) = f ((i - p : Nat) : Int) := by
        have := hf ((i - p : Nat) : Int)
        rw [show ((i - p : Nat) : Int) + (p : Int) = (i : Int) by omega] at this
        exact this
      have e2 : g ((i - p : Nat) : Int) = g ((i - p - q : Nat) : Int) := by
        have := hg ((i - p - q : Nat) : Int)
        rw [show ((i - p - q : Nat) : Int) + (q : Int) = ((i - p : Nat) : Int) by omega] at this
        exact this
      have e3 : f ((i - q : Nat) : Int) = f ((i - p - q : Nat) : Int) := by
        have := hf ((i - p - q : Nat) : Int)
        rw [show ((i - p - q : Nat) : Int) + (p : Int) = ((i - q : Nat) : Int) by omega] at this
        exact this
      have e4 : g (i : Int) = g ((i - q : Nat) : Int) := by
        have := hg ((i - q : Nat) : Int)
        rw [show ((i - q : Nat) : Int) + (q : Int) = (i : Int) by omega] at this
        exact this
      rw [e1, ih (i - p) (by omega), e2, ← ih (i - p - q) (by omega), ← e3, ih (i - q) (by omega), ← e4]
theorem agree_all {f g : Int → Nat} {p q : Nat} (hp : 1 ≤ p) (hq : 1 ≤ q) (hf : P f p) (hg : P g q) (h : ∀ i : Nat, f (i : Int) = g (i : Int)) : ∀ i : Int, f i = g i := by
  intro i
  have hpq : 1 ≤ p * q := Nat.mul_pos hp hq
  have r1 : P f ((p * q : Nat) : Int) := by
    rw [Int.natCast_mul, Int.mul_comm]; exact hf.mul _
  have r2 : P g ((p * q : Nat) : Int) := by
    rw [Int.natCast_mul]; exact hg.mul _
  have h1 := Int.emod_nonneg i (show ((p * q : Nat) : Int) ≠ 0 by omega)
  rw [← r1.rest i, ← r2.rest i, show i % ((p * q : Nat) : Int) = (((i % ((p * q : Nat) : Int)).toNat : Nat) : Int) by omega]
  exact h _
theorem agree {f g : Int → Nat} {p q : Nat} (hp : 1 ≤ p) (hq : 1 ≤ q) (hf : P f p) (hg : P g q) (h : ∀ i : Nat, i < p + q → f (i : Int) = g (i : Int)) : ∀ i : Int, f i = g i :=
  agree_all hp hq hf hg (agree_nat hp hq hf hg h)
theorem alike_of {a b : List Nat} {m k : Int} {n : Nat} (ha : a ≠ []) (hb : b ≠ []) (hn : a.length + b.length ≤ n) (h : ∀ i : Nat, i < n → at' a (m + (i : Int)) = at' b (k + (i : Int))) :
    ∀ i : Int, at' a (m + i) = at' b (k + i) :=
  agree (List.length_pos_iff.mpr ha) (List.length_pos_iff.mpr hb) ((at_per a).shift m) ((at_per b).shift k) fun i hi => h i (by omega)

theorem steps {w : Nat → Nat} {N g : Nat} (h : ∀ i, i + g < N → w i = w (i + g)) : ∀ (k i : Nat), i + k * g < N → w i = w (i + k * g)
  | 0, i, _ => by rw [Nat.zero_mul, Nat.add_zero]
  | k + 1, i, hi => by
    have e : i + (k + 1) * g = i + k * g + g := by rw [Nat.succ_mul, Nat.add_assoc]
    rw [e] at hi ⊢
    rw [← h _ hi]
    exact steps h k i (by omega)
theorem window : ∀ (n p q : Nat) (w : Nat → Nat), p + q ≤ n → 1 ≤ p → 1 ≤ q → (∀ i, i + p < p + q - Nat.gcd p q → w i = w (i + p)) → (∀ i, i + q < p + q - Nat.gcd p q → w i = w (i + q)) →
    ∀ i, i + Nat.gcd p q < p + q - Nat.gcd p q → w i = w (i + Nat.gcd p q)
  | 0, p, q, w, hn, hp, hq, h1, h2 => by omega
  | n + 1, p, q, w, hn, hp, hq, h1, h2 => by
    -- the case p < q
    have main : ∀ (p q : Nat), p + q ≤ n + 1 → 1 ≤ p → p < q → (∀ i, i + p < p + q - Nat.gcd p q → w i = w (i + p)) → (∀ i, i + q < p + q - Nat.gcd p q → w i = w (i + q)) →
        ∀ i, i + Nat.gcd p q < p + q - Nat.gcd p q → w i = w (i + Nat.gcd p q) := by
      intro p q hn hp hlt h1 h2
      have hg : Nat.gcd p (q - p) = Nat.gcd p q := by
        rw [Nat.gcd_comm, Nat.gcd_sub_self_left (by omega), Nat.gcd_comm]
      have gp : Nat.gcd p q ∣ p := Nat.gcd_dvd_left _ _
      have gq : Nat.gcd p q ∣ q := Nat.gcd_dvd_right _ _
      have gle : Nat.gcd p q ≤ p := Nat.le_of_dvd hp gp
      have gpos : 1 ≤ Nat.gcd p q := Nat.gcd_pos_of_pos_left _ hp
      have gqp : Nat.gcd p q ≤ q - p := Nat.le_of_dvd (by omega) (Nat.dvd_sub gq gp)
      obtain ⟨c, hc⟩ := gp
      have ih := window n p (q - p) w (by omega) hp (by omega)
        (fun i hi => h1 i (by rw [hg] at hi; omega))
        (fun i hi => by
          rw [hg] at hi
          have e1 := h2 i (by omega)
          have e2 := h1 (i + (q - p)) (by omega)
          rw [show i + (q - p) + p = i + q by omega] at e2
          rw [e1, e2])
      rw [hg] at ih
      have hN : p + (q - p) - Nat.gcd p q = q - Nat.gcd p q := by omega
      rw [hN] at ih
      intro i
      induction i using Nat.strongRecOn with
      | _ i ihi =>
        intro hi
        by_cases c1 : i + Nat.gcd p q < q - Nat.gcd p q
        · exact ih i c1
        · by_cases c2 : p ≤ i
          · have e1 := h1 (i - p) (by omega)
            have e2 := h1 (i - p + Nat.gcd p q) (by omega)
            rw [show i - p + p = i by omega] at e1
            rw [show i - p + Nat.gcd p q + p = i + Nat.gcd p q by omega] at e2
            rw [← e1, ← e2]
            exact ihi (i - p) (by omega) (by omega)
          · have e2 := h1 (i + Nat.gcd p q - p) (by omega)
            rw [show i + Nat.gcd p q - p + p = i + Nat.gcd p q by omega] at e2
            have hc0 : 1 ≤ c := by
              cases c with
              | zero => rw [Nat.mul_zero] at hc; omega
              | succ c => omega
            have hcm : (c - 1) * Nat.gcd p q = p - Nat.gcd p q := by
              rw [Nat.sub_mul, Nat.one_mul, Nat.mul_comm c, ← hc]
            have e3 := steps ih (c - 1) (i + Nat.gcd p q - p) (by rw [hcm]; omega)
            rw [hcm, show i + Nat.gcd p q - p + (p - Nat.gcd p q) = i by omega] at e3
            rw [← e2, ← e3]
    rcases Nat.lt_trichotomy p q with hlt | heq | hgt
    · exact main p q hn hp hlt h1 h2
    · subst heq
      rw [Nat.gcd_self] at h1 ⊢
      exact h1
    · have := main q p (by omega) hq hgt (by rw [Nat.gcd_comm, Nat.add_comm]; exact h2) (by rw [Nat.gcd_comm, Nat.add_comm]; exact h1)
      rw [Nat.gcd_comm, Nat.add_comm] at this
      exact this
theorem whole_of_window {f : Int → Nat} {p g : Nat} (hg : 1 ≤ g) (hd : g ∣ p) (hp : 1 ≤ p) (hf : P f p) (h : ∀ i : Nat, i + g < p → f (i : Int) = f ((i + g : Nat) : Int)) : P f (g : Int) := by
  obtain ⟨c, hc⟩ := hd
  have hcpos : 1 ≤ c := by
    cases c with
    | zero => rw [Nat.mul_zero] at hc; omega
    | succ c => omega
  have nat : ∀ i : Nat, i < p → f ((i : Int) + (g : Int)) = f (i : Int) := fun i hi => by
    by_cases h1 : i + g < p
    · rw [h i h1]; exact congrArg f (by omega)
    · -- i + g wraps round: i + g - p is below g, i is c - 1 steps further
      have hw : f ((i : Int) + (g : Int)) = f ((i + g - p : Nat) : Int) := by
        have := hf ((i + g - p : Nat) : Int)
        rw [show ((i + g - p : Nat) : Int) + (p : Int) = (i : Int) + (g : Int) by omega] at this
        exact this
      have hcm : (c - 1) * g = p - g := by rw [Nat.sub_mul, Nat.one_mul, Nat.mul_comm c, ← hc]
      have gle : g ≤ p := by rw [hc]; exact Nat.le_mul_of_pos_right _ hcpos
      have e3 := steps (w := fun i => f ((i : Nat) : Int)) (N := p) (g := g) h (c - 1) (i + g - p) (by rw [hcm]; omega)
      rw [hcm, show i + g - p + (p - g) = i by omega] at e3
      rw [hw]; exact e3
  intro i
  have h1 := Int.emod_nonneg i (show (p : Int) ≠ 0 by omega)
  have h2 := Int.emod_lt_of_pos i (show (0 : Int) < (p : Int) by omega)
  have e := nat (i % (p : Int)).toNat (by omega)
  rw [show (((i % (p : Int)).toNat : Nat) : Int) = i % (p : Int) by omega] at e
  rw [hf.rest i] at e
  rw [← e]
  rw [← hf.rest (i + (g : Int)), ← hf.rest (i % (p : Int) + (g : Int))]
  exact congrArg f (by rw [Int.emod_add_emod])
theorem fine_wilf {f g : Int → Nat} {p q : Nat} (hp : 1 ≤ p) (hq : 1 ≤ q) (hf : P f p) (hg : P g q) (h : ∀ i : Nat, i < p + q - Nat.gcd p q → f (i : Int) = g (i : Int)) : ∀ i : Int, f i = g i := by
  have gp : Nat.gcd p q ∣ p := Nat.gcd_dvd_left _ _
  have gq : Nat.gcd p q ∣ q := Nat.gcd_dvd_right _ _
  have gpos : 1 ≤ Nat.gcd p q := Nat.gcd_pos_of_pos_left _ hp
  have glp : Nat.gcd p q ≤ p := Nat.le_of_dvd hp gp
  have glq : Nat.gcd p q ≤ q := Nat.le_of_dvd hq gq
  have W := window (p + q) p q (fun i => f (i : Int)) (Nat.le_refl _) hp hq
    (fun i _ => by
      show f (i : Int) = f ((i + p : Nat) : Int)
      rw [Int.natCast_add]; exact (hf _).symm)
    (fun i hi => by
      show f (i : Int) = f ((i + q : Nat) : Int)
      rw [h i (by omega), h (i + q) hi, Int.natCast_add]; exact (hg _).symm)
  have pf : P f ((Nat.gcd p q : Nat) : Int) := whole_of_window gpos gp hp hf fun i hi => W i (by omega)
  have pg : P g ((Nat.gcd p q : Nat) : Int) := whole_of_window gpos gq hq hg fun i hi => by
    rw [← h i (by omega), ← h (i + Nat.gcd p q) (by omega)]
    exact W i (by omega)
  intro i
  have h1 := Int.emod_nonneg i (show ((Nat.gcd p q : Nat) : Int) ≠ 0 by omega)
  have h2 := Int.emod_lt_of_pos i (show (0 : Int) < ((Nat.gcd p q : Nat) : Int) by omega)
  rw [← pf.rest i, ← pg.rest i, show i % ((Nat.gcd p q : Nat) : Int) = (((i % ((Nat.gcd p q : Nat) : Int)).toNat : Nat) : Int) by omega]
  exact h _ (by omega)

def Looks (a b : List Nat) (m : Int) : Prop := ∀ i : Int, at' a (m + i) = at' b i
theorem Looks.step {a b : List Nat} {d : Nat} {m : Int} (hd : P (at' a) (d : Int)) (h : Looks a b m) (k : Int) : Looks a b (m + k * (d : Int)) := fun i => by
  rw [show m + k * (d : Int) + i = m + i + k * (d : Int) by omega, hd.mul k]; exact h i
theorem Looks.rest {a b : List Nat} {d : Nat} {m : Int} (hd : P (at' a) (d : Int)) (h : Looks a b m) : Looks a b (m % (d : Int)) := by
  have e : m % (d : Int) = m + -(m / (d : Int)) * (d : Int) := by rw [Int.emod_def, Int.mul_comm (d : Int), Int.neg_mul, Int.sub_eq_add_neg]
  rw [e]; exact h.step hd _
def rot (l : List Nat) (m : Nat) : List Nat := l.drop m ++ l.take m
theorem rot_len (l : List Nat) (m : Nat) : (rot l m).length = l.length := by
  unfold rot; rw [List.length_append, List.length_drop, List.length_take]; omega
structure IsTurn (a b : List Nat) (m : Nat) : Prop where
  looks : Looks a b (m : Int)
  min : ∀ j : Nat, j < m → ¬ Looks a b (j : Int)
def NoTurn (a b : List Nat) : Prop := ∀ m : Int, ¬ Looks a b m
theorem IsTurn.lt {a b : List Nat} {d m : Nat} (ha : IsMeas a d) (h : IsTurn a b m) : m < d := by
  have hd := ha.pos
  by_cases c : m < d
  · exact c
  · refine absurd ?_ (h.min (m - d) (by omega))
    have := h.looks.step ha.P (-1)
    rw [show (m : Int) + -1 * (d : Int) = ((m - d : Nat) : Int) by omega] at this
    exact this
theorem NoTurn.of {a b : List Nat} {d : Nat} (hd : 1 ≤ d) (hp : P (at' a) (d : Int)) (h : ∀ j : Nat, j < d → ¬ Looks a b (j : Int)) : NoTurn a b := fun m hm => by
  have h1 := Int.emod_nonneg m (show (d : Int) ≠ 0 by omega)
  have h2 := Int.emod_lt_of_pos m (show (0 : Int) < (d : Int) by omega)
  have := hm.rest hp
  rw [show m % (d : Int) = (((m % (d : Int)).toNat : Nat) : Int) by omega] at this
  exact h _ (by omega) this
theorem NoTurn.symm {a b : List Nat} (h : NoTurn a b) : NoTurn b a := fun m hm => h (-m) fun i => by
  have := hm (-m + i)
  rw [show m + (-m + i) = i by omega] at this
  exact this.symm
theorem IsTurn.uniq {a b : List Nat} {m k : Nat} (h : IsTurn a b m) (h' : IsTurn a b k) : m = k := by
  rcases Nat.lt_trichotomy m k with c | c | c
  · exact absurd h.looks (h'.min m c)
  · exact c
  · exact absurd h'.looks (h.min k c)
end Lamp
namespace Lamp
structure Parts (a : List Nat) (m : Int) (b : List Nat) (k : Int) (n : Nat) : Prop where
  pos : 1 ≤ n
  same : ∀ j : Nat, j + 1 < n → at' a (m + (j : Int)) = at' b (k + (j : Int))
  diff : at' a (m + ((n - 1 : Nat) : Int)) ≠ at' b (k + ((n - 1 : Nat) : Int))
def Alike (a : List Nat) (m : Int) (b : List Nat) (k : Int) : Prop := ∀ i : Int, at' a (m + i) = at' b (k + i)
theorem Parts.uniq {a b : List Nat} {m k : Int} {n n' : Nat} (h : Parts a m b k n) (h' : Parts a m b k n') : n = n' := by
  have p := h.pos
  have p' := h'.pos
  rcases Nat.lt_trichotomy n n' with c | c | c
  · exact absurd (h'.same (n - 1) (by omega)) h.diff
  · exact c
  · exact absurd (h.same (n' - 1) (by omega)) h'.diff
theorem Parts.not_alike {a b : List Nat} {m k : Int} {n : Nat} (h : Parts a m b k n) : ¬ Alike a m b k := fun z => h.diff (z _)
theorem Parts.symm {a b : List Nat} {m k : Int} {n : Nat} (h : Parts a m b k n) : Parts b k a m n := ⟨h.pos, fun j hj => (h.same j hj).symm, fun z => h.diff z.symm⟩
theorem Alike.symm {a b : List Nat} {m k : Int} (h : Alike a m b k) : Alike b k a m := fun i => (h i).symm
theorem Parts.le {a b : List Nat} {m k : Int} {n d e : Nat} (h : Parts a m b k n) (ha : IsMeas a d) (hb : IsMeas b e) : n ≤ d + e - Nat.gcd d e := by
  by_cases c : n ≤ d + e - Nat.gcd d e
  · exact c
  · refine absurd ?_ h.not_alike
    exact fine_wilf ha.pos hb.pos (ha.P.shift m) (hb.P.shift k) fun i hi => h.same i (by omega)
end Lamp

set_option maxHeartbeats 1000000
namespace Lamp
def lit2 (a b : List Nat) (i : Int) : Nat := if at' a i = 111 ∨ at' b i = 111 then 111 else 46
def firsts (f : Int → Nat) (n : Nat) : List Nat := (List.range n).map fun (k : Nat) => f (k : Int)
end Lamp
namespace Lamp
end Lamp

namespace Lw
open PySem PySem.Spec PyProof.Rows L2 Lamp
def Lit (l : List Nat) : Prop := 1 ≤ l.length ∧ l.length ≤ 12 ∧ ∀ c ∈ l, c = 46 ∨ c = 111
theorem Lit.ne {l : List Nat} (h : Lit l) : l ≠ [] := by
  intro e; subst e; have := h.1; simp at this
theorem same_new {H : Hp} {p : Addr} (h : H p = none) (o : HO) : Same H (upd H p o) := fun b u q => by rw [upd_ne (ne_of_none q h)]; exact q
def sp_check_light (_ : PySem.W.Frag) : Sp := fun vs H Q _ => ∃ l, vs = [.str (T l)] ∧ Lit l ∧ Q .non H
def sp_sign_at (_ : PySem.W.Frag) : Sp := fun vs H Q _ => ∃ l m, vs = [.str (T l), .int m] ∧ l ≠ [] ∧ l.length ≤ 1000 ∧ Q (.str (T [at' l m])) H
abbrev sp_law_at := sp_sign_at
def sp_seen (_ : PySem.W.Frag) : Sp := fun vs H Q _ => ∃ l m n, vs = [.str (T l), .int m, .int n] ∧ Lit l ∧ 0 ≤ n ∧ n ≤ 100 ∧ ∀ H', Same H H' → Q (.str (T (sight l m n.toNat))) H'
def sp_law_cell_at (K : PySem.W.Frag) : Sp := fun vs H Q _ => ∃ (a : Addr) (ns : List Int) (k : Int), vs = [.ref a, .int k] ∧ SqL K H a (ns.map V.int) ∧ 0 ≤ k ∧ ∀ i, Q (.int i) H
def sp_law_light_by (_ : PySem.W.Frag) : Sp := fun vs H Q _ => ∃ h c, vs = [.int h, .int c] ∧ ∀ l, Lit l → Q (.str (T l)) H
def sp_law_sight (_ : PySem.W.Frag) : Sp := fun vs H Q _ => ∃ l m n, vs = [.str (T l), .int m, .int n] ∧ l ≠ [] ∧ l.length ≤ 1000 ∧ 0 ≤ n ∧ n ≤ 500 ∧ Q (.str (T (sight l m n.toNat))) H
def sp_law_moment_by (_ : PySem.W.Frag) : Sp := fun vs H Q _ => ∃ c, vs = [.int c] ∧ ∀ m, Q (.int m) H
def sp_law (K : PySem.W.Frag) : Sp := fun vs H Q _ => ∃ (a : Addr) (ns : List Int), vs = [.ref a] ∧ SqL K H a (ns.map V.int) ∧ ns.length ≤ 63 ∧ ∀ H', Q (.bl true) H'
theorem ix2 {e : Int} {H : Hp} {Q : VK} (h : ∀ cc : Nat, (cc = 46 ∨ cc = 111) → Q (.str (T [cc])) H) : rIxT' (.str (T [46, 111])) (.int (e % 2)) H Q := by
  have h1 := Int.emod_nonneg e (show (2 : Int) ≠ 0 by decide)
  have h2 := Int.emod_lt_of_pos e (show (0 : Int) < 2 by decide)
  by_cases c : e % 2 = 0
  · exact ⟨_, _, 46, rfl, rfl, by decide, h1, by rw [c]; rfl, h 46 (.inl rfl)⟩
  · have c1 : e % 2 = 1 := by omega
    exact ⟨_, _, 111, rfl, rfl, by decide, h1, by rw [c1]; rfl, h 111 (.inr rfl)⟩
theorem Lit.rep {l : List Nat} {n p : Nat} (hl : l.length = n) (hs : ∀ c ∈ l, c = 46 ∨ c = 111) (h1 : 1 ≤ n) (h2 : n ≤ 12) (hp : 1 ≤ p) (hd : n % p = 0) : Lit (List.replicate (n / p) (l.take p)).flatten := by
  have hle : p ≤ n := Nat.le_of_dvd h1 (Nat.dvd_of_mod_eq_zero hd)
  have hm : n / p * p = n := Nat.div_mul_cancel (Nat.dvd_of_mod_eq_zero hd)
  have len : (List.replicate (n / p) (l.take p)).flatten.length = n := by
    have := rep_len (n / p) (l.take p)
    unfold Lamp.rep at this
    rw [this, List.length_take, hl, Nat.min_eq_left hle, hm]
  refine ⟨by omega, by omega, fun c hc => ?_⟩
  obtain ⟨w, hw, hcw⟩ := List.mem_flatten.mp hc
  rw [(List.mem_replicate.mp hw).2] at hcw
  exact hs c (List.mem_of_mem_take hcw)
end Lw
namespace Lw
open PySem PySem.Spec PyProof.Rows L2 Lamp
def sp_shortest_row (_ : PySem.W.Frag) : Sp := fun vs H Q _ => ∃ l, vs = [.str (T l)] ∧ l ≠ [] ∧ l.length ≤ 1000 ∧ ∀ d, IsMeas l d → Q (.str (T (l.take d))) H
def sp_shortest (_ : PySem.W.Frag) : Sp := fun vs H Q _ => ∃ l, vs = [.str (T l)] ∧ Lit l ∧ ∀ d, IsMeas l d → Q (.str (T (l.take d))) H
def sp_law_measure (_ : PySem.W.Frag) : Sp := fun vs H Q _ => ∃ l, vs = [.str (T l)] ∧ l ≠ [] ∧ l.length ≤ 900 ∧ ∀ d, IsMeas l d → Q (.int (d : Nat)) H
def sp_turn (_ : PySem.W.Frag) : Sp := fun vs H Q _ => ∃ a b, vs = [.str (T a), .str (T b)] ∧ Lit a ∧ Lit b ∧ (∀ m : Nat, IsTurn a b m → Q (.int (m : Int)) H) ∧ (NoTurn a b → Q .non H)
def sp_parting (_ : PySem.W.Frag) : Sp := fun vs H Q _ => ∃ a m b k, vs = [.str (T a), .int m, .str (T b), .int k] ∧ Lit a ∧ Lit b ∧ (∀ n : Nat, Parts a m b k n → Q (.int (n : Int)) H) ∧ (Alike a m b k → Q .non H)
abbrev sp_law_parting := sp_parting
def sp_law_whole (_ : PySem.W.Frag) : Sp := fun vs H Q _ => ∃ i, vs = [.int i] ∧ Q (.bl true) H
def sp_law_other_by (K : PySem.W.Frag) : Sp := fun vs H Q _ => ∃ (a : Addr) (ns : List Int) (l : List Nat), vs = [.ref a, .str (T l)] ∧ SqL K H a (ns.map V.int) ∧ Lit l ∧ ∀ o, Lit o → Q (.str (T o)) H
def sp_law_two_by (K : PySem.W.Frag) : Sp := fun vs H Q _ => ∃ (a : Addr) (ns : List Int), vs = [.ref a] ∧ SqL K H a (ns.map V.int) ∧
  ∀ (l o : List Nat) (m k : Int) (p : Addr) (H' : Hp), Lit l → Lit o → Same H H' → H' p = some (.tup [.str (T l), .str (T o), .int m, .int k]) → Q (.ref p) H'
def sp_law_common (_ : PySem.W.Frag) : Sp := fun vs H Q _ => ∃ m n : Nat, vs = [.int (m : Int), .int (n : Int)] ∧ m < 1000000 ∧ n < 1000000 ∧ Q (.int ((Nat.gcd m n : Nat) : Int)) H
theorem Lit.take {l : List Nat} {d : Nat} (h : Lit l) (h1 : 1 ≤ d) (h2 : d ≤ l.length) : Lit (l.take d) := by
  have e : (l.take d).length = d := by rw [List.length_take]; omega
  exact ⟨by omega, by have := h.2.1; omega, fun c hc => h.2.2 c (List.mem_of_mem_take hc)⟩
theorem Lit.twice {l : List Nat} (h : Lit l) (h1 : l.length ≤ 6) : Lit (l ++ l) := by
  have e : (l ++ l).length = l.length + l.length := List.length_append
  exact ⟨by have := h.1; omega, by omega, fun c hc => (List.mem_append.mp hc).elim (h.2.2 c) (h.2.2 c)⟩
theorem Lit.rot {l : List Nat} {m : Nat} (h : Lit l) : Lit (l.drop m ++ l.take m) := by
  have e : (l.drop m ++ l.take m).length = l.length := rot_len l m
  exact ⟨by rw [e]; exact h.1, by rw [e]; exact h.2.1, fun c hc => (List.mem_append.mp hc).elim (fun z => h.2.2 c (List.mem_of_mem_drop z)) (fun z => h.2.2 c (List.mem_of_mem_take z))⟩
end Lw
namespace Lw
open PySem PySem.Spec PyProof.Rows L2 Lamp
def isLit (l : List Nat) : Bool := l.all fun c => c == 46 || c == 111
theorem isLit_iff {l : List Nat} : isLit l = true ↔ ∀ c ∈ l, c = 46 ∨ c = 111 := by
  unfold isLit
  rw [List.all_eq_true]
  constructor
  · intro h c hc
    have := h c hc
    rw [Bool.or_eq_true] at this
    exact this.imp (fun z => eq_of_beq z) (fun z => eq_of_beq z)
  · intro h c hc
    rcases h c hc with z | z <;> subst z <;> rfl
theorem Lit.isLit {l : List Nat} (h : Lit l) : isLit l = true := isLit_iff.mpr h.2.2
def sp_lit_and_dark_alone (_ : PySem.W.Frag) : Sp := fun vs H Q _ => ∃ l, vs = [.str (T l)] ∧ Q (.bl (isLit l)) H
end Lw

namespace L2
open PySem PySem.Spec PyProof.Rows
def CXE (P : Program) (w : World) : CXT := fun outer H s E e s' => ∃ (ea : Addr) (cls a0 : Value) (B : Heap) (H' : Hp), e = .ref ea ∧ s'.os = s.os ∧ AllBare s'.gens ∧ Un (frs outer) [] H H' s.heap s'.heap ∧ HOk P w H' s'.heap ∧
  Heap.FlyingW B outer ea cls a0 s'.heap ∧ (∀ b o, s'.heap.get? b = some o → (H' b ≠ none ∨ s.heap.get? b ≠ none) → b ∉ frs outer → B.get? b = some o) ∧ s.heap.get? ea = none ∧ E cls none H'
structure Cx.Lets (X : Cx) (E : XK) : Prop where
  xe : X.xe = fun e s' => wpAny (model X.prog X.w) X.A (leaving X.env e) (fun _ s'' => CXE X.prog X.w X.outer X.H₀ X.s₀ E e s'') (fun e' s'' => CXE X.prog X.w X.outer X.H₀ X.s₀ E e' s'') s'
  stack : X.stack = X.env :: X.outer
  frame : X.env.frame = some X.env.locals
  ex : X.ex = []
  calm : X.calm = true
theorem ObjOk.has {P : Program} {w : World} {H : Hp} {h : Heap} {a : Addr} {o : HO} (x : ObjOk P w H h a o) : ∃ ob, h.get? a = some ob := by
  cases o with
  | lst xs => obtain ⟨_, _, _, _, e⟩ := x; exact ⟨_, e⟩
  | tup xs => obtain ⟨_, _, _, _, e, _⟩ := x; exact ⟨_, e⟩
  | dK kvs => obtain ⟨_, _, _, _, o, _, _, e, _⟩ := x; exact ⟨_, e⟩
  | dT kvs => obtain ⟨_, _, _, _, o, _, _, e, _⟩ := x; exact ⟨_, e⟩
  | set S n => obtain ⟨o, _, _, _, e, _⟩ := x; exact ⟨_, e⟩
  | ins C dx fs => obtain ⟨_, _, _, e, _⟩ := x; exact ⟨_, e⟩
  | own y => exact x
  | xd fs => obtain ⟨_, ⟨_, _, _, e, _⟩, _⟩ := x; exact ⟨_, e⟩
  | rng lo hi => obtain ⟨_, _, _, e⟩ := x; exact ⟨_, e⟩
  | frz ob u => obtain ⟨e, _⟩ := x; exact ⟨_, e⟩
  | tbl ps => exact ⟨_, (show h.get? a = some _ from x)⟩
  | met f y => exact ⟨_, (show h.get? a = some _ from x)⟩
  | ext φ => obtain ⟨_, e, _⟩ := x; exact e
section
variable {X : Cx} {E : XK} {pins : List (Addr × Obj)} {σ : St} {H H' : Hp} {s s' : Shared} {B : Heap} {ea : Addr} {cls a0 : Value}
theorem Cx.Lets.fs (L : X.Lets E) : frs X.stack = X.env.locals :: frs X.outer := by
  rw [L.stack]
  show List.filterMap (·.frame) (X.env :: X.outer) = _
  rw [List.filterMap_cons, L.frame] <;> rfl
theorem Cx.Lets.passes (L : X.Lets E) : PassesOwn (model X.prog X.w) X.A X.env X.xe := by
  rw [L.xe]
  exact PassesOwn.leaving
theorem lets_done (L : X.Lets E) (I : Inv X pins σ H' s') (hfl : Heap.FlyingW B X.outer ea cls a0 s.heap) (hup : s'.heap.UpToSlots s.heap)
    (cov : ∀ b o, s'.heap.get? b = some o → (H' b ≠ none ∨ X.s₀.heap.get? b ≠ none) → b ∉ frs X.stack → B.get? b = some o) (hos : s.os = s'.os) (hg : AllBare s.gens) (hea : X.s₀.heap.get? ea = none) (q : E cls none H') :
    CXE X.prog X.w X.outer X.H₀ X.s₀ E (.ref ea) s := by
  have below : ∀ b o, X.s₀.heap.get? b = some o → b ≠ X.env.locals := fun b o e z => absurd (Nat.lt_of_lt_of_le (Heap.lt_size e) I.ok.above) (by rw [z]; exact Nat.lt_irrefl _)
  have inB : ∀ b o, s'.heap.get? b = some o → (H' b ≠ none ∨ X.s₀.heap.get? b ≠ none) → b ∉ frs X.stack → s.heap.get? b = some o := fun b o e h n => hfl.1 b o (cov b o e h n)
  have notS : ∀ b, b ≠ X.env.locals → b ∉ X.fs → b ∉ frs X.stack := fun b h1 h2 z => (List.mem_cons.mp (I.stkSub b z)).elim h1 h2
  have base := I.base
  rw [L.ex] at base
  refine ⟨ea, cls, a0, B, H', rfl, hos.trans I.os, hg, ⟨fun b o e n hb hx => ?_, fun b o e n hb hx => ?_, base.free, fun b o e hx => ?_, base.tups, base.frzs, base.tbls⟩, fun b o e => ?_, hfl, fun b o e h n => ?_, hea, q⟩
  · exact inB b o (base.keep b o e n hb hx) (.inr (by rw [e]; simp)) (notS b (below b o e) hb)
  · obtain ⟨sl, e1⟩ := base.slot b o e n hb hx
    obtain ⟨_, o', e2, nf⟩ := I.funs.mem hb
    rw [e1] at e2
    cases e2
    obtain ⟨sl', e3⟩ := hup b _ e1 nf
    exact ⟨sl', e3⟩
  · obtain ⟨o', e1⟩ := base.there b o e hx
    by_cases hb : b ∈ X.fs
    · obtain ⟨_, o2, e2, nf⟩ := I.funs.mem hb
      obtain ⟨sl', e3⟩ := hup b _ e2 nf
      exact ⟨_, e3⟩
    · exact ⟨o', inB b o' e1 (.inr (by rw [e]; simp)) (notS b (below b o e) hb)⟩
  · have free : ∀ c u, H' c = some u → c ∉ frs X.stack := fun c u e z => by rw [I.stkFree c z] at e; cases e
    refine (I.hok b o e).stay (fun c u hc q => inB c u q (.inl ?_) ?_) (fun _ q => q) fun _ _ q => q
    · rcases hc with z | z
      · rw [z, e]; simp
      · rw [z]; simp
    · rcases hc with z | z
      · rw [z]; exact free b o e
      · exact free c _ z
  · have old : ∃ o', s'.heap.get? b = some o' := by
      rcases h with h | h
      · cases eh : H' b with
        | none => exact absurd eh h
        | some u => exact (I.hok b u eh).has
      · cases eh : X.s₀.heap.get? b with
        | none => exact absurd eh h
        | some u => exact base.there b u eh (by simp)
    obtain ⟨o', e1⟩ := old
    have nl : b ≠ X.env.locals := by
      rcases h with h | h
      · intro z; rw [z] at h; exact h I.free
      · cases eh : X.s₀.heap.get? b with
        | none => exact absurd eh h
        | some u => exact below b u eh
    have e2 := cov b o' e1 h (notS b nl n)
    have e3 := hfl.1 b o' e2
    rw [e] at e3
    rw [e3]
    exact e2
theorem Cx.Lets.pass (L : X.Lets E) : Passes (CXE X.prog X.w) X E := by
  intro pins σ H s e s' I h
  obtain ⟨ea, cls, a0, B, H', rfl, hos, hg, un, hok, hfl, cov, hea, q⟩ := h
  have I' : Inv X pins σ H' s' := I.call' (ch := []) hos un hok hg fun b z => absurd z (by simp)
  rw [L.xe]
  show wpAny (model X.prog X.w) X.A (leaving X.env (.ref ea)) _ _ s'
  have fr := I.ok.frames
  rw [L.stack] at fr hfl
  refine wpAny_leaves_onW fr L.frame hfl fun h' hfl' hup => ?_
  have s0 : ∀ b, X.s₀.heap.get? b ≠ none → s.heap.get? b ≠ none := fun b hb => by
    cases eh : X.s₀.heap.get? b with
    | none => exact absurd eh hb
    | some u =>
      have base := I.base
      rw [L.ex] at base
      obtain ⟨o', e⟩ := base.there b u eh (by simp)
      rw [e]; simp
  refine lets_done (s := { s' with heap := h' }) L I' hfl' hup (fun b o e hb n => cov b o e (hb.imp id (s0 b)) n) rfl hg ?_ q
  cases eh : X.s₀.heap.get? ea with
  | none => rfl
  | some u => exact absurd hea (s0 ea (by rw [eh]; simp))
theorem exc_obj {K : PySem.W.Frag} {h : Heap} {C : Addr} {bB : List Value} {nw : String} (X : K.In h) (z : PySem.W.excIn K C bB nw = true) :
    ∃ m N nm qn bs hd sn sub ab col dd k0 k1 k2 k3 k5 mN, h.get? C = some (excClassObj nm qn C N bs m hd sn sub ab col dd k0 k1 k2 k3 k5 nw) ∧ h.Ns N mN ∧ mN "__init__" = none ∧ OwnTail h bB m := by
  unfold PySem.W.excIn at z
  split at z
  case h_2 => cases z
  case h_1 d0 c0 sl0 lk =>
    split at z
    case h_2 => cases z
    case h_1 C2 m2 a0 a1 a2 a3 n2 a5 w1 w2 =>
      simp only [Bool.and_eq_true, beq_iff_eq, Bool.not_eq_true'] at z
      obtain ⟨⟨⟨⟨⟨z1, z2⟩, z3⟩, z4⟩, z5⟩, z6⟩ := z
      subst z1; subst z2
      obtain ⟨f1, f2, f3, f4, f5, f6, f7, f8, f9, f10, f11⟩ := c0
      have w1' : f3 = _ := w1
      have z3' : f11 = _ := z3
      subst w1'; subst z3'
      have ws : sl0 = #[a0, a1, a2, a3, some (.builtin n2), a5] := by
        rw [← Array.toArray_toList (xs := sl0), w2]
      subst ws
      exact ⟨m2, f4, f1, f5, f2, f6, f7, f8, f9, f10, d0, a0, a1, a2, a3, a5, _, X _ _ lk, .of_isNs (PySem.W.isNs_of_in X z5), PySem.W.nsMap_none_of_in X z5 z6, PySem.W.tail_of_in X z4⟩
def tRaise (C : Addr) (E : XK) : TS := fun _ _ H => E (.ref C) none H
end
section
variable {X : Cx} {pins : List (Addr × Obj)} {σ : List (Option V)} {H H' : Hp} {s : Shared} {h' : Heap}
theorem Inv.step2 {g' : Array GenState} {t' : Nat} {d' : Drawn} {ch : List Addr} (I : Inv X pins σ H s)
    (hch : ∀ b ∈ ch, (b ∈ X.ex ∨ X.s₀.heap.get? b = none) ∧ b ≠ X.env.locals ∧ (∀ x c, X.env.cells.lookup x = some c → c ≠ b) ∧ ∀ p ∈ X.pn ++ pins, p.1 ≠ b)
    (keep : ∀ b o, b ≠ X.env.locals → b ∉ X.fs → b ∉ ch → s.heap.get? b = some o → H b = none → h'.get? b = some o)
    (slot : ∀ b o, b ≠ X.env.locals → b ∈ X.fs → b ∉ ch → s.heap.get? b = some o → H b = none → ∃ sl, h'.get? b = some { o with slots := sl }) (free : ∀ b o, b ∉ ch → s.heap.get? b = some o → H b = none → H' b = none)
    (there : ∀ b o, b ∉ ch → s.heap.get? b = some o → ∃ o', h'.get? b = some o')
    (tups : ∀ b xs, H b = some (.tup xs) → H' b = some (.tup xs)) (frzs : ∀ b o u, H b = some (.frz o u) → H' b = some (.frz o u)) (tbls : ∀ b ps, H b = some (.tbl ps) → ∃ more, H' b = some (.tbl (ps ++ more)))
    (ns : ∀ m, s.heap.Ns X.env.locals m → h'.Ns X.env.locals m) (hok : HOk X.prog X.w H' h') (hg : AllBare g') :
    Inv X pins σ H' { s with heap := h', gens := g', drawn := d', toks := t' } := by
  have neL : ∀ b o, X.s₀.heap.get? b = some o → b ≠ X.env.locals := fun b o e => Nat.ne_of_lt (Nat.lt_of_lt_of_le (Heap.lt_size e) I.ok.above)
  have neC : ∀ b o, X.s₀.heap.get? b = some o → b ∉ X.ex → b ∉ ch := fun b o e hx hb => by
    rcases (hch b hb).1 with z | z
    · exact hx z
    · rw [e] at z; cases z
  have cellK : ∀ x c, X.env.cells.lookup x = some c → ∀ v, s.heap.IsCell c v → h'.IsCell c v := fun x c e v ⟨o, ho, hd⟩ => by
    have nch : c ∉ ch := fun z => (hch c z).2.2.1 x c e rfl
    by_cases hc : c ∈ X.fs
    · obtain ⟨sl, q⟩ := slot c o (I.cne x c e) hc nch ho (I.freeC x c e)
      exact ⟨_, q, hd⟩
    · exact ⟨o, keep c o (I.cne x c e) hc nch ho (I.freeC x c e), hd⟩
  refine ⟨I.ok, I.os, hg, ⟨fun b o e n hb hx => ?_, fun b o e n hb hx => ?_, fun b o e n hx => ?_, fun b o e hx => ?_, fun b xs e => tups b xs (I.base.tups b xs e), fun b o xs e => frzs b o xs (I.base.frzs b o xs e), fun b ps e => ?_⟩, ?_, fun x c e => ?_, ?_, fun x c e => ?_, fun p hp => ?_, hok, I.len⟩
  · exact keep b o (neL b o e) hb (neC b o e hx) (I.base.keep b o e n hb hx) (I.base.free b o e n hx)
  · obtain ⟨sl, e1⟩ := I.base.slot b o e n hb hx
    obtain ⟨sl', e2⟩ := slot b _ (neL b o e) hb (neC b o e hx) e1 (I.base.free b o e n hx)
    exact ⟨sl', e2⟩
  · obtain ⟨o', e1⟩ := I.base.there b o e hx
    exact free b o' (neC b o e hx) e1 (I.base.free b o e n hx)
  · obtain ⟨o', e1⟩ := I.base.there b o e hx
    exact there b o' (neC b o e hx) e1
  · obtain ⟨m1, e1⟩ := I.base.tbls b ps e
    obtain ⟨m2, e2⟩ := tbls b _ e1
    exact ⟨m1 ++ m2, by rw [e2, Array.append_assoc]⟩
  · obtain ⟨m, hn, hl⟩ := I.loc
    refine ⟨m, ns m hn, fun i x v e1 e2 e3 => ?_⟩
    obtain ⟨u, r, l⟩ := hl i x v e1 e2 e3
    refine ⟨u, r, ?_⟩
    rcases l with l | ⟨k, c, e, z⟩
    · exact .inl l
    · exact .inr ⟨k, c, e, cellK x c e _ z⟩
  · obtain ⟨v, z⟩ := I.cell x c e
    exact ⟨v, cellK x c e v z⟩
  · obtain ⟨m, ⟨o, _, _, ho, _⟩, _⟩ := I.loc
    exact free _ o (fun z => (hch _ z).2.1 rfl) ho I.free
  · obtain ⟨v, o, ho, hd⟩ := I.cell x c e
    exact free c o (fun z => (hch c z).2.2.1 x c e rfl) ho (I.freeC x c e)
  · obtain ⟨e, n, ne, nf, d⟩ := I.pin p hp
    have nch : p.1 ∉ ch := fun z => (hch p.1 z).2.2.2 p hp rfl
    exact ⟨keep p.1 p.2 ne nf nch e n, free p.1 p.2 nch e n, ne, nf, d⟩
end
section
variable {X : Cx} {pins : List (Addr × Obj)} {σ : St} {H H' : Hp} {s s1 : Shared} {h' B : Heap}
theorem Inv.flown (I : Inv X pins σ H s) (hos : s1.os = s.os) (un : Un (frs X.stack) [] H H' s.heap s1.heap) (hok : HOk X.prog X.w H' s1.heap) (hg : AllBare s1.gens)
    (cov : ∀ b o, s1.heap.get? b = some o → (H' b ≠ none ∨ s.heap.get? b ≠ none) → b ∉ frs X.stack → B.get? b = some o) (hst : B.StaysIn h') (hup : s1.heap.UpToSlots h') : Inv X pins σ H' { s1 with heap := h' } := by
  have I1 : Inv X pins σ H' s1 := I.call' (ch := []) hos un hok hg fun b z => absurd z (by simp)
  have free : ∀ c u, H' c = some u → c ∉ frs X.stack := fun c u e z => by rw [I1.stkFree c z] at e; cases e
  have inB : ∀ b o, s1.heap.get? b = some o → (H' b ≠ none ∨ s.heap.get? b ≠ none) → b ∉ frs X.stack → h'.get? b = some o := fun b o e h n => hst b o (cov b o e h n)
  have notS : ∀ b, b ≠ X.env.locals → b ∉ X.fs → b ∉ frs X.stack := fun b h1 h2 z => (List.mem_cons.mp (I.stkSub b z)).elim h1 h2
  have frm : ∀ b, b ∈ frs X.stack → ∀ o, s1.heap.get? b = some o → ∃ sl, h'.get? b = some { o with slots := sl } := fun b hb o e => by
    obtain ⟨_, o2, e2, nf⟩ := I1.stack.mem hb
    rw [e] at e2; cases e2
    exact hup b o e nf
  have mem : ∀ b, b ∈ ((List.range s1.heap.objs.size).filter fun b => (H' b).isNone && (s.heap.get? b).isNone) → H' b = none ∧ s.heap.get? b = none := fun b hb => by
    have := (List.mem_filter.mp hb).2
    rw [Bool.and_eq_true, Option.isNone_iff_eq_none, Option.isNone_iff_eq_none] at this
    exact this
  have nmem : ∀ b o, s1.heap.get? b = some o → b ∉ ((List.range s1.heap.objs.size).filter fun b => (H' b).isNone && (s.heap.get? b).isNone) → H' b ≠ none ∨ s.heap.get? b ≠ none := fun b o e hb => by
    by_cases h1 : H' b = none
    · refine .inr fun h2 => hb (List.mem_filter.mpr ⟨List.mem_range.mpr (Heap.lt_size e), ?_⟩)
      rw [h1, h2]; rfl
    · exact .inl h1
  obtain ⟨m0, ⟨o0, _, _, eL, dL, _⟩, _⟩ := I.loc
  refine I1.step2 (g' := s1.gens) (t' := s1.toks) (d' := s1.drawn) (ch := (List.range s1.heap.objs.size).filter fun b => (H' b).isNone && (s.heap.get? b).isNone) (fun b hb => ?_) (fun b o hL hf hb e n => ?_) (fun b o hL hf hb e n => ?_) (fun _ _ _ _ n => n) (fun b o hb e => ?_) (fun _ _ e => e) (fun _ _ _ e => e) (fun b ps e => ⟨#[], by rw [e]; simp⟩)
    (fun m hm => hup.ns hm) (fun b o e => ?_) hg
  · obtain ⟨h1, h2⟩ := mem b hb
    refine ⟨?_, (fun z => by rw [z, eL] at h2; cases h2), fun x c e z => ?_, fun p hp z => ?_⟩
    · by_cases hx : b ∈ X.ex
      · exact .inl hx
      · refine .inr ?_
        cases e : X.s₀.heap.get? b with
        | none => rfl
        | some u =>
          obtain ⟨o', e'⟩ := I.base.there b u e hx
          rw [h2] at e'; cases e'
    · obtain ⟨v, o, ho, _⟩ := I.cell x c e
      rw [z, h2] at ho; cases ho
    · have := (I.pin p hp).1
      rw [z, h2] at this; cases this
  · exact inB b o e (nmem b o e hb) (notS b hL hf)
  · obtain ⟨_, o2, e2, nf⟩ := I1.funs.mem hf
    rw [e] at e2; cases e2
    exact hup b o e nf
  · by_cases hs : b ∈ frs X.stack
    · obtain ⟨sl, q⟩ := frm b hs o e
      exact ⟨_, q⟩
    · exact ⟨o, inB b o e (nmem b o e hb) hs⟩
  · refine (hok b o e).stay (fun c u hc q => inB c u q (.inl ?_) ?_) (fun _ q => q) fun _ _ q => q
    · rcases hc with z | z
      · rw [z, e]; simp
      · rw [z]; simp
    · rcases hc with z | z
      · rw [z]; exact free b o e
      · exact free c _ z
end

section
variable {X : Cx} {pins : List (Addr × Obj)} {σ : St} {H : Hp} {s : Shared}
@[reducible] def Cx.tryCx (X : Cx) (E' : Value → Shared → Prop) (pn : List (Addr × Obj)) : Cx := { X with xe := E', pn := pn }
@[reducible] def Cx.handCx (X : Cx) (m : Option Value) : Cx := { X with A := X.A.mark m, calm := false, xe := fun _ _ => False }
theorem Inv.toTry (I : Inv X pins σ H s) (E' : Value → Shared → Prop) : Inv (X.tryCx E' (X.pn ++ pins)) [] σ H s :=
  ⟨⟨I.ok.mod, I.ok.kind, I.ok.glob, I.ok.blt, I.ok.above, I.ok.inj, I.ok.has, I.ok.cab, I.ok.hd, I.ok.frames, I.ok.stk, I.ok.exf, I.ok.bs, I.ok.bsz, I.ok.noex, I.ok.exfs, I.ok.funs, I.ok.frf⟩,
    I.os, I.bare, I.base, I.loc, I.cell, I.free, I.freeC, fun p hp => I.pin p (by simpa using hp), I.hok, I.len⟩
theorem Inv.ofTry {E' : Value → Shared → Prop} {p2 : List (Addr × Obj)} (I : Inv (X.tryCx E' (X.pn ++ pins)) p2 σ H s) : Inv X pins σ H s :=
  ⟨⟨I.ok.mod, I.ok.kind, I.ok.glob, I.ok.blt, I.ok.above, I.ok.inj, I.ok.has, I.ok.cab, I.ok.hd, I.ok.frames, I.ok.stk, I.ok.exf, I.ok.bs, I.ok.bsz, I.ok.noex, I.ok.exfs, I.ok.funs, I.ok.frf⟩,
    I.os, I.bare, I.base, I.loc, I.cell, I.free, I.freeC, fun p hp => I.pin p (List.mem_append_left _ hp), I.hok, I.len⟩
theorem Inv.toHand (I : Inv X pins σ H s) (m : Option Value) : Inv (X.handCx m) pins σ H s :=
  ⟨⟨I.ok.mod, I.ok.kind, I.ok.glob, I.ok.blt, I.ok.above, I.ok.inj, I.ok.has, I.ok.cab, (fun z => absurd (show false = true from z) Bool.false_ne_true), I.ok.frames, I.ok.stk, I.ok.exf, I.ok.bs, I.ok.bsz, I.ok.noex, I.ok.exfs, I.ok.funs, I.ok.frf⟩,
    I.os, I.bare, I.base, I.loc, I.cell, I.free, I.freeC, I.pin, I.hok, I.len⟩
theorem Inv.ofHand {m : Option Value} {p0 : List (Addr × Obj)} {σ0 : St} {H0 : Hp} {s0 : Shared} (I0 : Inv X p0 σ0 H0 s0) (I : Inv (X.handCx m) pins σ H s) : Inv X pins σ H s :=
  ⟨I0.ok, I.os, I.bare, I.base, I.loc, I.cell, I.free, I.freeC, I.pin, I.hok, I.len⟩
theorem Inv.track {a : Addr} {o : HO} (I : Inv X pins σ H s) (hn : H a = none) (h0 : X.s₀.heap.get? a = none) (hL : a ≠ X.env.locals) (hc : ∀ x c, X.env.cells.lookup x = some c → c ≠ a) (hp : ∀ p ∈ X.pn ++ pins, p.1 ≠ a)
    (new : ObjOk X.prog X.w (upd H a o) s.heap a o) : Inv X pins σ (upd H a o) s := by
  have ne : ∀ b u, H b = some u → b ≠ a := fun b u e z => by rw [z, hn] at e; cases e
  have := I.step2 (H' := upd H a o) (h' := s.heap) (g' := s.gens) (t' := s.toks) (d' := s.drawn) (ch := [a]) (fun b hb => ?_) (fun b ob _ _ _ e _ => e) (fun b ob _ _ _ e _ => ⟨ob.slots, e⟩) (fun b ob hb _ n => by rw [upd_ne (fun z => hb (by simp [z]))]; exact n)
    (fun b ob _ e => ⟨ob, e⟩) (fun b xs e => by rw [upd_ne (ne b _ e)]; exact e) (fun b ob u e => by rw [upd_ne (ne b _ e)]; exact e) (fun b ps e => ⟨#[], by rw [upd_ne (ne b _ e), e]; simp⟩) (fun _ hm => hm) (fun b u e => ?_) I.bare
  · exact this
  · have e : b = a := by simpa using hb
    subst e
    exact ⟨.inr h0, hL, hc, hp⟩
  · by_cases hb : b = a
    · subst hb
      rw [upd_same] at e; cases e
      exact new
    · rw [upd_ne hb] at e
      exact (I.hok b u e).stay (fun _ _ _ q => q) (fun c q => by rw [upd_ne (ne c _ q)]; exact q) fun c xs q => by rw [upd_ne (ne c _ q)]; exact q
theorem Inv.unnamed {h' : Heap} {m' : Str → Option Value} {t' : Nat} (I : Inv X pins σ H s) (hn : h'.Ns X.env.locals m') (hs : Heap.SameBut X.env.locals s.heap h') : Inv X pins (List.replicate X.N.length none) H { s with heap := h', toks := t' } := by
  have k : ∀ b o, b ≠ X.env.locals → s.heap.get? b = some o → h'.get? b = some o := fun b o n e => (hs.2 b n).trans e
  have neL : ∀ b o, X.s₀.heap.get? b = some o → b ≠ X.env.locals := fun b o e => Nat.ne_of_lt (Nat.lt_of_lt_of_le (Heap.lt_size e) I.ok.above)
  have neH : ∀ b u, H b = some u → b ≠ X.env.locals := fun b u e z => by rw [z, I.free] at e; cases e
  refine ⟨I.ok, I.os, I.bare, ⟨fun b o e n hb hx => k b o (neL b o e) (I.base.keep b o e n hb hx), fun b o e n hb hx => let ⟨sl, q⟩ := I.base.slot b o e n hb hx; ⟨sl, k b _ (neL b o e) q⟩, I.base.free,
    fun b o e hx => let ⟨o', q⟩ := I.base.there b o e hx; ⟨o', k b o' (neL b o e) q⟩, I.base.tups, I.base.frzs, I.base.tbls⟩, ⟨m', hn, fun i x v _ e2 _ => ?_⟩, fun x c e => let ⟨v, o, q, d⟩ := I.cell x c e; ⟨v, o, k c o (I.cne x c e) q, d⟩, I.free, I.freeC,
    fun p hp => let ⟨e, r⟩ := I.pin p hp; ⟨k p.1 p.2 r.2.1 e, r⟩, fun b u e => ?_, List.length_replicate⟩
  · rw [List.getElem?_replicate] at e2
    split at e2 <;> cases e2
  · refine (I.hok b u e).stay (fun c v hc q => k c v ?_ q) (fun _ q => q) fun _ _ q => q
    rcases hc with z | z
    · rw [z]; exact neH b u e
    · exact neH c _ z
def excO (ea : Addr) (cls : Value) : HO := .ext fun h => ∃ o, h.get? ea = some o ∧ o.cls = cls ∧ PySem.W.notCls o = true
def tTry (K : PySem.W.Frag) (C0 : Addr) (n i : Nat) (tb : XK → TS) (th : TS) : TS := fun D σ H => ∃ E : XK, tb E D σ H ∧ ∀ cls H1, E cls none H1 → PySem.W.exmOne K cls (.ref C0) = some true ∧
  ∀ ea, H1 ea = none → th { nx := fun _ _ => False, rt := D.rt } ((List.replicate n none).set i (some (.ref ea))) (upd H1 ea (excO ea cls))
end
end L2

namespace L2
open PySem PySem.Spec PySem.Calls PyProof.Rows PySem.W PySem.Builtin PySem.Builtin.ObjectAttr PySem.Builtin.Getset_descriptor
section
variable {prog : Program} {w : World} {A : Around} {E : Value → Shared → Prop} {s : Shared} {K : Frag} {x D : Addr} {ox : Obj}
structure PlainCls (K : Frag) (D : Addr) : Prop where
  cls : (clsIn K D).isSome = true
  ga : findIn K (.ref D) "__getattribute__" = some (some (.builtin "BaseException.__getattribute__"))
  gx : findIn K (.ref D) "__getattr__" = some none
  att : findIn K (.ref D) "__class__" = some (some (.builtin "object.__class__"))
  bind : specialIn K (.builtin "object.__class__") "__get__" = some (some (.builtin "getset_descriptor.__get__"))
  data : takesIn K (.builtin "object.__class__") = some true
  obj : mroIn K D (.type "object") = some true
  bex : mroIn K D (.type "BaseException") = some true
theorem exc_find {M : Model} {h : Heap} (X : K.In h) (c : PlainCls K D) : Looks M h (find (.ref x) (.ref D) "__class__") (.bind (.builtin "getset_descriptor.__get__") (.builtin "object.__class__")) := by
  have t1 := looks_findIn (M := M) X c.att
  have t2 : Looks M h (getOf (some (.builtin "object.__class__"))) (some (.builtin "getset_descriptor.__get__")) := looks_specialIn X c.bind
  have t3 := looks_takesIn (M := M) X c.data
  refine t1.andThen (t2.andThen ?_)
  refine (show Looks M h (dataDescriptor? (some (.builtin "object.__class__")) (some (.builtin "getset_descriptor.__get__"))) (some (.builtin "getset_descriptor.__get__", .builtin "object.__class__")) from ?_).andThen (Looks.tag .now)
  exact t3.andThen .now
theorem exc_get {R : Result → Shared → Prop} {tp : Value} (X : K.In s.heap) (hx : s.heap.get? x = some ox) (hc : ox.cls = .ref D) (c : PlainCls K D) (h : R (.ok (.ret (.ref D))) s) :
    codeAny (model prog w) A (.call (.builtin "getset_descriptor.__get__") ⟨[.builtin "object.__class__", .ref x, tp], []⟩) R s := by
  obtain ⟨hh, g, dr, t, os⟩ := s
  have T0 : Looks (model prog w) hh (typeOf (.ref x)) (.ref D) := hc ▸ (Looks.ld hx).andThen .now
  have T1 := looks_mroIn (M := model prog w) X c.obj
  refine codeAny_call_builtin KF.slot_gs.plain KF.entry_gs
    (KF.slot_gs.check _ _ _ _ _ _ _ _ KF.type_class (KF.args_gs _ _ _) ?_)
  unfold Builtin.«getset_descriptor.__get__»
  unfold descrGet
  rw [dga_obj]
  refine wpAny_bind (wpAny_pure ?_)
  unfold descrGetter descrCheckInstance
  unfold descrNameAndClass isInstance
  simp only [KF.owner_class]
  repeat lk
  refine ⟨Code.quiet_builtin _ (by decide +kernel),
    codeAny_builtin KF.entry_class ?_⟩
  unfold Builtin.«object.__class__»
  unfold shownTypeOf
  repeat lk
  first | exact h | exact ⟨_, rfl, h⟩
theorem exc_check {M : Model} {nameV : Value} {Q : Unit → Shared → Prop} (X : K.In s.heap) (hx : s.heap.get? x = some ox) (hc : ox.cls = .ref D) (c : PlainCls K D) (hq : Q () s) : wpAny M A (checkBuiltinCall "BaseException.__getattribute__" ⟨[.ref x, nameV], []⟩) Q E s := by
  obtain ⟨hh, g, d, t, os⟩ := s
  have T0 : Looks M hh (typeOf (.ref x)) (.ref D) := hc ▸ (Looks.ld hx).andThen .now
  have T1 := looks_mroIn (M := M) X c.bex
  have hk : builtinKind "BaseException.__getattribute__" = some .slot := by decide +kernel
  have hsplit : splitId "BaseException.__getattribute__" = some ("BaseException", "__getattribute__") := by decide +kernel
  have ha := F.args_bexc_ga (.ref x) nameV
  simp only [checkBuiltinCall, hk, hsplit]
  refine wpAny_bind ?_
  unfold isInstance
  repeat lk
  exact hq
theorem exc_class {Q : Option Value → Shared → Prop} (X : K.In s.heap) (hx : s.heap.get? x = some ox) (hc : ox.cls = .ref D) (c : PlainCls K D) (h : Q (some (.ref D)) { s with toks := s.toks + 1 }) :
    wpAny (model prog w) A (getAttr? (.ref x) "__class__") Q E s := by
  obtain ⟨hh, g, d, t, os⟩ := s
  have T0 : Looks (model prog w) hh (typeOf (.ref x)) (.ref D) := hc ▸ (Looks.ld hx).andThen .now
  have T1 := looks_findIn (M := model prog w) X c.ga
  have T2 := exc_find (M := model prog w) (x := x) X c
  have T3 := looks_findIn (M := model prog w) X c.gx
  have hb := F.excAttr_ValueError.ga.bind (.ref x)
  have hx2 : (Value.builtin "BaseException.__getattribute__" == Value.builtin "object.__getattribute__") = false := by decide +kernel
  have hx1 : (onTheHeap (Value.ref D) && Value.builtin "BaseException.__getattribute__" == Value.builtin "object.__getattribute__") = false := by rw [hx2]; rfl
  unfold getAttr?
  unfold getAttrBy? getAttrBy
  refine wpAny_bind (wpAny_mkText (wpAny_bind
    (wpAny_attempt (wpAny_holding (wpAny_bind (T0.at (wpAny_bind (T1.at ?_))))))))
  dsimp only
  rw [hx1, if_neg Bool.false_ne_true]
  unfold getAttrByItsOwn hookBefore
  rw [if_pos (show onTheHeap (Value.ref D) = true from rfl)]
  refine wpAny_bind (T3.at ?_)
  dsimp only
  refine wpAny_bind (wpAny_attempt (wpAny_holding ?_))
  unfold callGetattribute
  rw [Bool.false_and, if_neg Bool.false_ne_true]
  unfold boundAndCalled
  refine wpAny_bind (wpAny_of_eq hb ?_)
  dsimp only
  refine wpAny_call (codeAny_call_builtin F.excAttr_ValueError.ga.plain F.entry_bexc_ga (exc_check X hx hc c ?_))
  unfold Builtin.«object.__getattribute__»
  refine wpAny_bind (wpAny_of_eq (a := (Value.ref x, [Value.str "__class__" t])) rfl ?_)
  dsimp only
  refine wpAny_bind (wpAny_of_eq (a := ("__class__" : Str)) rfl ?_)
  refine wpAny_bind (T0.at (wpAny_bind (T2.at ?_)))
  dsimp only
  unfold bindTo
  show wpAny _ _ (holding [Value.builtin "object.__class__"] (call (.builtin "getset_descriptor.__get__") [.builtin "object.__class__", .ref x, .ref D]) >>= ret) _ _ _
  refine wpAny_bind (wpAny_holding (wpAny_call (exc_get (s := ⟨hh, g, d, t + 1, os⟩) X hx hc c ?_)))
  exact wpAny_pure (handed_on rfl (wpAny_pure h))
theorem kitx_exc (c : PlainCls K D) : KitX K (.ref x) (.ref D) (fun h => ∃ o, h.get? x = some o ∧ o.cls = .ref D ∧ notCls o = true) where
  ty := fun M h _ ⟨o, e, hc, _⟩ => hc ▸ (Looks.ld e).andThen .now
  it := fun M h X _ => by
    obtain ⟨cd, e⟩ := Option.isSome_iff_exists.mp c.cls
    unfold clsIn at e
    split at e
    case h_2 => cases e
    case h_1 lk =>
      intro A1 Q1 E1 s1 k1 q1
      unfold isType
      unfold loadHead
      exact wpAny_bind (wpAny_loadPart (k1 _ _ (X _ _ lk)) (wpAny_pure q1))
  ne := fun h tp dd its n sl X htp => by
    obtain ⟨cd, e⟩ := Option.isSome_iff_exists.mp c.cls
    refine Bool.eq_false_iff.mpr fun z => ?_
    have e2 : D = tp := Value.ref.inj (beq_iff_eq.mp z)
    subst e2
    unfold clsIn at e
    split at e
    case h_2 => cases e
    case h_1 lk =>
      have y := X _ _ lk
      rw [htp] at y
      cases y
  ca := fun X ⟨o, e, hc, _⟩ k => exc_class X e hc c k
end
section
variable {X : Cx}
def clsV : V → Option Value
  | .ref a => some (.ref a)
  | .ty n => some (.type n)
  | _ => none
def rIsiE (K : Frag) : List V → Hp → VK → Prop := fun xs H Q => ∃ ea D y c b, xs = [.ref ea, y] ∧ H ea = some (excO ea (.ref D)) ∧ PlainCls K D ∧ clsV y = some c ∧ kitOne K (.ref D) c = some b ∧ Q (.bl b) H
theorem call_isiE : CallR X (.builtin "isinstance") (rIsiE X.K) := by
  intro pins s σ H xs us Q I r h
  obtain ⟨ea, D, y, c, b, rfl, he, pc, ry, e, q⟩ := h
  obtain ⟨u, c', rfl, rx, rc⟩ := r.two
  cases rx
  have ob := I.hok ea _ he
  have φ : ∃ o, s.heap.get? ea = some o ∧ o.cls = .ref D ∧ notCls o = true := ob.1
  have ec : c' = c := by
    cases y with
    | ref a => cases ry; exact rc
    | ty n => cases ry; exact rc
    | _ => cases ry
  subst ec
  exact kia_one (kitx_exc pc) I.kIn φ e (fun z => nomatch z) fun tk => ⟨.bl b, H, I.tok _, rfl, q⟩
end
end L2

namespace L2
open PySem PySem.Spec PyProof.Rows
theorem bools_of : ∀ {bs : List Bool} {us : List Value}, Vals (bs.map V.bl) us → us = bs.map Value.bool
  | [], us, r => by
    rw [List.map_nil] at r
    cases r; rfl
  | b :: bs, us, r => by
    rw [List.map_cons] at r
    cases r with
    | cons r1 r2 =>
      have e : _ = Value.bool b := r1
      rw [e, bools_of r2]; rfl
def isB (k : Bool) : Value → Bool
  | .bool b => b == k
  | _ => false
section
variable {X : Cx}
def rCountB : V → List V → Hp → VK → Prop := fun x vs H Q => ∃ (l : Addr) (bs : List Bool) (k : Bool), x = .ref l ∧ vs = [.bl k] ∧ H l = some (.lst (bs.map V.bl)) ∧ Q (.int ((bs.countP (· == k) : Nat) : Int)) H
theorem mt_countB : MtR X "list.count" rCountB := by
  intro pins s σ H x vs v us Q I rx rv h
  obtain ⟨l, bs, k, rfl, rfl, hH, q⟩ := h
  cases rx
  obtain ⟨u, rfl, ru⟩ := rv.one
  cases ru
  obtain ⟨z, its, n, r, hl, e⟩ := I.lstM hH
  obtain rfl := bools_of r
  refine call_meets F.slot_list_count ⟨_, e, rfl⟩ F.entry_list_count (F.args_list_count_2 _ _) (SeqAt.list_countAt l _ n none #[] (.bool k) (isB k)) ⟨e, fun y hy => ?_, ?_⟩
  · obtain ⟨b, _, rfl⟩ := List.mem_map.mp (show y ∈ bs.map Value.bool by simpa using hy)
    exact SeqAt.EqAt.bool_bool b k
  · refine ⟨.int ((bs.countP (· == k) : Nat) : Int), H, I.tok _, ⟨s.toks, ?_⟩, q⟩
    have : (bs.map Value.bool).countP (isB k) = bs.countP (· == k) := by rw [List.countP_map]; rfl
    rw [show (bs.map Value.bool).toArray.toList = bs.map Value.bool from rfl, this]
def rIndexB : V → List V → Hp → VK → Prop := fun x vs H Q => ∃ (l : Addr) (bs : List Bool) (k : Bool) (j : Nat), x = .ref l ∧ vs = [.bl k] ∧ H l = some (.lst (bs.map V.bl)) ∧ bs.length ≤ 1000 ∧ bs[j]? = some k ∧ (∀ i, i < j → bs[i]? ≠ some k) ∧ Q (.int (j : Int)) H
theorem mt_indexB : MtR X "list.index" rIndexB := by
  intro pins s σ H x vs v us Q I rx rv h
  obtain ⟨l, bs, k, j, rfl, rfl, hH, hz, hj, hno, q⟩ := h
  cases rx
  obtain ⟨u, rfl, ru⟩ := rv.one
  cases ru
  obtain ⟨z, its, n, r, hl, e⟩ := I.lstM hH
  obtain rfl := bools_of r
  obtain ⟨jl, jv⟩ := List.getElem?_eq_some_iff.mp hj
  refine call_meets F.slot_list_index ⟨_, e, rfl⟩ F.entry_list_index (F.args_list_index_2 _ _) (SeqAt.list_indexAt l _ n none #[] (.bool k) (isB k) j (by simpa using jl) (by omega) ?_ ?_) ⟨e, fun y hy => ?_, ?_⟩
  · have jm : j < (bs.map Value.bool).length := by rw [List.length_map]; exact jl
    show isB k ((bs.map Value.bool)[j]'jm) = true
    rw [List.getElem_map, jv]
    show (k == k) = true
    simp
  · intro m hm hlt
    have ml : m < bs.length := by simpa using hm
    have mm : m < (bs.map Value.bool).length := by rw [List.length_map]; exact ml
    show isB k ((bs.map Value.bool)[m]'mm) = false
    rw [List.getElem_map]
    show (bs[m] == k) = false
    have := hno m hlt
    rw [List.getElem?_eq_getElem ml] at this
    exact beq_eq_false_iff_ne.mpr fun z => this (by rw [z])
  · obtain ⟨b, _, rfl⟩ := List.mem_map.mp (show y ∈ bs.map Value.bool by simpa using hy)
    exact SeqAt.EqAt.bool_bool b k
  · exact ⟨.int (j : Int), H, I.tok _, ⟨s.toks, rfl⟩, q⟩
end
section
variable {P : Program} {w : World} {K : PySem.W.Frag} {mg : Str → Option Value} {base : Heap}
structure DefE (P : Program) (w : World) (K : PySem.W.Frag) (mg : Str → Option Value) (base : Heap) (k : Nat) (x : Str) (ps : List Str) (sp : Sp) : Prop where
  ex : ∃ (f : Addr) (fd : FuncData), FnOk P w K mg base (CXE P w) k f fd ps sp ∧ Binds K fd ps [] ∧ PySem.W.keepIn K (.ref f) = true ∧ mg x = some (.ref f)
end
section
variable {X : Cx} {x : Str} {p pos : Pos} {e : Expr} {es : List Expr} {t : TA}
end
structure RoomH (k : Nat) (A : Around) : Prop where
  dp : A.depth + 3 * k + 5 < recursionLimit
  un : A.units + 16 * k + 200 < cLine
theorem Room.toH {k : Nat} {A : Around} (r : Room k A) (m : Option Value) : RoomH k (A.mark m) := ⟨r.dp, r.un⟩
theorem RoomH.mono {j k : Nat} {A : Around} (r : RoomH k A) (h : j ≤ k) : RoomH j A := ⟨by have := r.dp; omega, by have := r.un; omega⟩
theorem RoomH.deeper {k : Nat} {A : Around} (r : RoomH (k + 1) A) (env : Env) : RoomH k (A.deeper env) :=
  ⟨by have := r.dp; show A.depth + 1 + 3 * k + 5 < _; omega, by have := r.un; show A.units + 3 + 16 * k + 200 < _; omega⟩
structure FnOkH (P : Program) (w : World) (K : PySem.W.Frag) (mg : Str → Option Value) (base : Heap) (k : Nat) (f : Addr) (fd : FuncData) (ps : List Str) (sp : Sp) : Prop where
  len : ∀ vs H Q E, sp vs H Q E → vs.length = ps.length
  run : ∀ (A : Around) (outer : List Env) (s : Shared) (H : Hp) (args : Args) (us : List Value) (vs : List V) (Q : VK), RoomH k A → Env0 P w K mg base A outer s H → BindsTo s fd args (ps.zip us) → Vals vs us → sp vs H Q E0 →
    codeAny (model P w) A (.call (.ref f) args) (CR CX0 outer P w H s Q E0) s
section
variable {P : Program} {w : World} {K : PySem.W.Frag} {mg : Str → Option Value} {base : Heap}
@[reducible] def cxH (P : Program) (w : World) (K : PySem.W.Frag) (mg : Str → Option Value) (base : Heap) (N : List Str) (qual : Str) (scope : Scope) (f : Addr) (cd : Value) (A : Around) (outer : List Env) (s : Shared) (H : Hp) : Cx :=
  { cxOf CX0 P w K mg base N qual scope f cd A outer s H E0 with calm := false, xe := fun _ _ => False }
theorem Fun.okH {x qual : Str} {st : Stmt} {f : Addr} {fd : FuncData} {N ps : List Str} {k : Nat} {sp : Sp} (F : Fun K x qual st f fd) (S : FnScope N ps (defScope st)) (len : ∀ vs H Q E, sp vs H Q E → vs.length = ps.length)
    (hbody : ∀ (cdv : Value) (A : Around) (outer : List Env) (s : Shared) (H : Hp) (vs : List V) (Q : VK), RoomH k (A.deeper (envOfC qual (defScope st) s.heap.objs.size f cdv)) → sp vs H Q E0 →
      ∃ t, PSs (cxH P w K mg base N qual (defScope st) f cdv A outer s H) (defBody st) t ∧ t { nx := fun _ H' => Q .non H', rt := Q } (start N vs) H) : FnOkH P w K mg base (k + 1) f fd ps sp := by
  obtain ⟨oc, od, kV, doc, pm, an, cdv, ct, osl, rfl, lk, hcd⟩ := F.ex
  refine ⟨len, fun A outer s H args us vs Q hr e0 hb r hsp => ?_⟩
  have hl := len _ _ _ _ hsp
  have KX : K.In s.heap := e0.mod.kin.keeps fun b o e => (e0.bs b o e).1
  have lim : s.heap.NoLimit := e0.mod.nolimit.keeps fun b o e => (e0.bs b o e).1
  have hkind : ∀ y ∈ ps.zip us, (defScope st).names.lookup y.1 = some .local ∨ ((defScope st).names.lookup y.1 = some .cell ∧ ((cellsFrom (s.heap.objs.size + 1) (defScope st).names []).lookup y.1).isSome = true) := fun ⟨n, v⟩ hy => by
    rcases S.par n (List.of_mem_zip hy).1 with q | q
    · exact .inl q
    · exact .inr ⟨q, PySem.W.cellsFrom_some _ _ _ (.inl q)⟩
  refine codeAny_call_function (by have := hr.dp; omega) (KX _ _ lk) rfl S.co S.gen rfl (PySem.W.codeRec_of KX hcd) (hb _ _ _ _ ?_)
  refine wpAny_newFunctionEnv_cells S.kind hkind fun env he s1 x => ?_
  subst he
  refine ⟨lim.keeps x.toInCall.keep, codeAny_func ?_⟩
  obtain ⟨t, ht, hq⟩ := hbody cdv A outer s H vs Q (hr.deeper _) hsp
  have e1 : Env0 P w K mg base { A with handled := none } outer s H := ⟨e0.frames, e0.mod, e0.bs, e0.bsz, e0.funs, e0.frf, e0.hok, e0.bare⟩
  have I0 : Inv (cxOf CX0 P w K mg base N qual (defScope st) f cdv { A with handled := none } outer s H E0) [] (start N vs) H s1 := inv_start S rfl e1 hl r x
  have I : Inv (cxH P w K mg base N qual (defScope st) f cdv A outer s H) [] (start N vs) H s1 :=
    ⟨⟨I0.ok.mod, I0.ok.kind, I0.ok.glob, I0.ok.blt, I0.ok.above, I0.ok.inj, I0.ok.has, I0.ok.cab, (fun z => absurd (show false = true from z) Bool.false_ne_true), Around.frames_deeper e0.frames, I0.ok.stk, I0.ok.exf, I0.ok.bs, I0.ok.bsz, I0.ok.noex, I0.ok.exfs, I0.ok.funs, I0.ok.frf⟩,
      I0.os, I0.bare, I0.base, I0.loc, I0.cell, I0.free, I0.freeC, I0.pin, I0.hok, I0.len⟩
  refine wpAny_mono (ht [] s1 (start N vs) H _ I hq) (fun fl s' hs => ?_) fun e s' hs => False.elim hs
  have fin : ∀ {σ' : St} {H' : Hp} {v : V} {u : Value}, Inv (cxH P w K mg base N qual (defScope st) f cdv A outer s H) [] σ' H' s' → RelV v u → Q v H' → CE outer P w H s Q u s' :=
    fun {σ' H' v u} J rv q => ⟨v, H', J.os, J.bare, J.base, J.hok, rv, q⟩
  cases fl with
  | ret u =>
    obtain ⟨v, σ', H', J, rv, q⟩ := hs
    exact fin J rv q
  | next =>
    obtain ⟨σ', H', J, q⟩ := hs
    exact fin (v := V.non) (u := Value.none) J rfl q
  | brk =>
    obtain ⟨_, _, _, q⟩ := hs
    exact False.elim q
  | cont =>
    obtain ⟨_, _, _, q⟩ := hs
    exact False.elim q
structure DefH (P : Program) (w : World) (K : PySem.W.Frag) (mg : Str → Option Value) (base : Heap) (k : Nat) (x : Str) (ps : List Str) (sp : Sp) : Prop where
  ex : ∃ (f : Addr) (fd : FuncData), FnOkH P w K mg base k f fd ps sp ∧ Binds K fd ps [] ∧ PySem.W.keepIn K (.ref f) = true ∧ mg x = some (.ref f)
theorem Src.isH {k : Nat} {x : Str} {st : Stmt} {ps : List Str} {sp : Sp} (S : Src K mg x st)
    (hb : ∀ (kV doc pm : Value) (an : Option Addr) (cdv ct : Value) (us : List Value), us.length = ps.length → bindArgs (PySem.W.fnOf x x (defArgs st) (defBody st) (defScope st) .none kV doc pm an cdv ct) ⟨us, []⟩ = pure (ps.zip us))
    (ok : ∀ (f : Addr) (fd : FuncData), Fun K x x st f fd → FnOkH P w K mg base k f fd ps sp) : DefH P w K mg base k x ps sp := by
  obtain ⟨f, fd, F, hm⟩ := S.ex
  exact ⟨f, fd, ok f fd F, F.binds hb, F.kp, hm⟩
end
section
variable {X : Cx} {x : Str} {p pos : Pos} {e : Expr} {es : List Expr} {t : TA}
theorem pe_callH {j k : Nat} {ps : List Str} {sp : Sp} (D : DefH X.prog X.w X.K X.mg X.base j x ps sp) (hr : RoomH k X.A) (hg : Gl X x) (ha : PA X (e :: es) t) (hj : j ≤ k := by decide) (hdb : (x == ("__debug__" : Str)) = false := by decide)
    (he : starEach (e :: es) X.env = (false, eval e X.env) :: starEach es X.env := by rfl) (hpl : (backTo pos (starEach es X.env)).any (·.1) = false := by rfl) :
    PE X (.Call (.Name x p) (e :: es) [] pos) (tCall sp [] E0 t) := by
  obtain ⟨f, fd, F, hb, hk, hm⟩ := D.ex
  intro pins s σ H Q I h
  refine wpAny_Call_Name_kw (ld_glob I hg hm ?_ hdb)
  refine PySem.W.callWith_K (h₀ := X.base) I.ok.mod.kin hk (thn (ha pos pins s σ H _ I h) fun us s1 ⟨vs, H1, I1, r, q⟩ => ⟨I1.kIn, ?_⟩) he hpl
  have q : sp vs H1 Q E0 := by
    have q' : sp (vs ++ []) H1 Q E0 := q
    rw [List.append_nil] at q'
    exact q'
  have hl : us.length = ps.length := by rw [← r.length]; exact F.len _ _ _ _ q
  have bd := hb s1 us I1.kIn (by rw [List.append_nil]; exact hl)
  rw [List.append_nil] at bd
  refine wpAny_call (codeAny_mono (F.run X.A X.stack s1 H1 ⟨us, []⟩ us vs Q (hr.mono hj) I1.env0 bd r q) fun rr s' hq => ?_)
  cases rr with
  | error e => exact False.elim hq
  | ok fl =>
    cases fl with
    | ret u => exact I1.after hq
    | next => exact False.elim hq
    | brk => exact False.elim hq
    | cont => exact False.elim hq
end
end L2

namespace L2
open PySem PySem.Spec PyProof.Rows
def eqVs : List V → List V → Bool
  | [], [] => true
  | x :: xs, y :: ys => eqV x y && eqVs xs ys
  | _, _ => false
def eqIx (xs ys : List V) (j : Nat) : Bool := match xs[j]?, ys[j]? with
  | some x, some y => eqV x y
  | _, _ => true
theorem eqIx_all : ∀ {xs ys : List V}, xs.length = ys.length → (List.range xs.length).all (eqIx xs ys) = eqVs xs ys
  | [], [], _ => rfl
  | [], _ :: _, h => by simp at h
  | _ :: _, [], h => by simp at h
  | x :: xs, y :: ys, h => by
    have ih := eqIx_all (xs := xs) (ys := ys) (by simpa using h)
    rw [List.length_cons, List.range_succ_eq_map, List.all_cons, List.all_map]
    show (eqV x y && _) = (eqV x y && eqVs xs ys)
    rw [← ih]; rfl
theorem eqVs_len : ∀ {xs ys : List V}, xs.length ≠ ys.length → eqVs xs ys = false
  | [], [], h => absurd rfl h
  | [], _ :: _, _ => rfl
  | _ :: _, [], _ => rfl
  | x :: xs, y :: ys, h => by
    have ih := eqVs_len (xs := xs) (ys := ys) (fun e => h (by simp [e]))
    show (eqV x y && eqVs xs ys) = false
    rw [ih, Bool.and_false]
theorem eqV_refl {x : V} (f : flatV x = true) : eqV x x = true := by
  cases x <;> first | rfl | (simp [eqV]; done) | exact absurd (show false = true from f) Bool.false_ne_true
theorem eqVs_refl : ∀ {xs : List V}, xs.all flatV = true → eqVs xs xs = true
  | [], _ => rfl
  | x :: xs, f => by
    rw [List.all_cons, Bool.and_eq_true] at f
    show (eqV x x && eqVs xs xs) = true
    rw [eqV_refl f.1, eqVs_refl f.2]; rfl
theorem eqIx_at {A : Around} {s : Shared} {xs ys : List V} {us ws : List Value} (r1 : Vals xs us) (r2 : Vals ys ws) (f1 : xs.all flatV = true) (f2 : ys.all flatV = true) (j : Nat) (h1 : j < us.toArray.size) (h2 : j < ws.toArray.size) :
    SeqAt.EqAt A s us.toArray[j] ws.toArray[j] (eqIx xs ys j) := by
  have l1 := r1.length
  have l2 := r2.length
  have g1 : j < us.length := by simpa using h1
  have g2 : j < ws.length := by simpa using h2
  have b1 : j < xs.length := by omega
  have b2 : j < ys.length := by omega
  have k1 : xs[j]? = some xs[j] := List.getElem?_eq_getElem b1
  have k2 : ys[j]? = some ys[j] := List.getElem?_eq_getElem b2
  obtain ⟨u, e1, q1⟩ := r1.get k1
  obtain ⟨v, e2, q2⟩ := r2.get k2
  have a1 : us.toArray[j] = u := by
    have z : us[j]? = some us[j] := List.getElem?_eq_getElem g1
    rw [e1] at z
    have := Option.some.inj z
    simpa using this.symm
  have a2 : ws.toArray[j] = v := by
    have z : ws[j]? = some ws[j] := List.getElem?_eq_getElem g2
    rw [e2] at z
    have := Option.some.inj z
    simpa using this.symm
  rw [a1, a2]
  unfold eqIx
  rw [k1, k2]
  exact eqAt_V q1 q2 (List.all_eq_true.mp f1 _ (List.getElem_mem _)) (List.all_eq_true.mp f2 _ (List.getElem_mem _))
section
variable {X : Cx}
def rEqL (K : PySem.W.Frag) (neg : Bool) : R2 := fun x y H Q => ∃ p q xs ys, x = .ref p ∧ y = .ref q ∧ SqL K H p xs ∧ SqL K H q ys ∧ (xs.length = ys.length → xs.all flatV = true ∧ ys.all flatV = true) ∧
  Q (.bl (if neg then !eqVs xs ys else eqVs xs ys)) H
theorem op_eqL (hu : X.A.units < cLine) : OpR X (compareOp .Eq) (rEqL X.K false) := by
  intro pins s σ H x y v u Q I rx ry h
  obtain ⟨p, q, xs, ys, rfl, rfl, hp, hq, hf, hQ⟩ := h
  cases rx; cases ry
  obtain ⟨its, r1, pl1, _⟩ := I.list hp
  obtain ⟨its2, r2, pl2, _⟩ := I.list hq
  have l1 := r1.length
  have l2 := r2.length
  by_cases hl : xs.length = ys.length
  · obtain ⟨f1, f2⟩ := hf hl
    refine SeqAt.eq_listAt (e := eqIx xs ys) pl1.isList pl2.isList (by simp; omega) hu (fun j h1 h2 => eqIx_at r1 r2 f1 f2 j h1 h2) ⟨.bl _, H, I, rfl, ?_⟩
    rw [show its.toArray.size = xs.length by simp [l1], eqIx_all hl]
    exact hQ
  · refine SeqAt.eq_list_lengthsAt pl1.isList pl2.isList (by simp; omega) hu ⟨.bl false, H, I, rfl, ?_⟩
    have e := eqVs_len hl
    have hQ' : Q (.bl (eqVs xs ys)) H := hQ
    rw [e] at hQ'
    exact hQ'
def rEqT (K : PySem.W.Frag) (neg : Bool) : R2 := fun x y H Q => ∃ p q xs ys, x = .ref p ∧ y = .ref q ∧ SqT K H p xs ∧ SqT K H q ys ∧ xs.length = ys.length ∧ xs.all flatV = true ∧ ys.all flatV = true ∧
  Q (.bl (if neg then !eqVs xs ys else eqVs xs ys)) H
end
def Tups (H : Hp) (ys : List V) (ts : List (List V)) : Prop := Paired (fun y t => ∃ p, y = V.ref p ∧ H p = some (.tup t)) ys ts
theorem Tups.nil {H : Hp} : Tups H [] [] := Paired.nil
theorem Tups.len {H : Hp} {ys : List V} {ts : List (List V)} (h : Tups H ys ts) : ys.length = ts.length := Paired.length h
theorem Tups.mono {H H' : Hp} {ys : List V} {ts : List (List V)} (h : Tups H ys ts) (k : ∀ p t, H p = some (.tup t) → H' p = some (.tup t)) : Tups H' ys ts := Paired.mapP h fun _ _ ⟨p, e, q⟩ => ⟨p, e, k p _ q⟩
theorem Tups.same {H H' : Hp} {ys : List V} {ts : List (List V)} (h : Tups H ys ts) (k : Same H H') : Tups H' ys ts := h.mono fun p _ q => k p _ q
theorem Tups.get {H : Hp} {ys : List V} {ts : List (List V)} {i : Nat} {t : List V} (h : Tups H ys ts) (e : ts[i]? = some t) : ∃ p, ys[i]? = some (.ref p) ∧ H p = some (.tup t) := by
  unfold Tups at h
  induction h generalizing i with
  | nil => simp at e
  | cons a r ih =>
    cases i with
    | zero =>
      obtain ⟨p, e1, q⟩ := a
      have e2 := Option.some.inj e
      subst e2; subst e1
      exact ⟨p, rfl, q⟩
    | succ i => exact ih (i := i) (by simpa using e)
theorem Tups.upd {H : Hp} {ys : List V} {ts : List (List V)} {l : Addr} {o : HO} (h : Tups H ys ts) (hl : ∀ t, H l ≠ some (.tup t)) : Tups (upd H l o) ys ts :=
  h.mono fun p t q => by
    have : p ≠ l := fun e => hl t (by rw [← e]; exact q)
    rw [upd_ne this]; exact q
def tupB (H : Hp) (xs : List V) : Value → Bool
  | .ref a => match H a with
    | some (.tup zs) => eqVs zs xs
    | _ => false
  | _ => false
section
variable {X : Cx}
def rNotInT (K : PySem.W.Frag) : R2 := fun x y H Q => ∃ p xs q ys ts, x = .ref p ∧ H p = some (.tup xs) ∧ xs.all flatV = true ∧ y = .ref q ∧ SqL K H q ys ∧ Tups H ys ts ∧ (∀ t ∈ ts, t.all flatV = true ∧ t.length = xs.length) ∧
  Q (.bl (!ts.any (fun t => eqVs t xs))) H
def rCountV : V → List V → Hp → VK → Prop := fun x vs H Q => ∃ (l : Addr) (xs : List V) (y : V), x = .ref l ∧ vs = [y] ∧ H l = some (.lst xs) ∧ flatV y = true ∧ xs.all flatV = true ∧ Q (.int ((xs.countP (fun z => eqV z y) : Nat) : Int)) H
def rSplit : V → List V → Hp → VK → Prop := fun x xs H Q => ∃ a c, x = .str (T a) ∧ xs = [.str (T [c])] ∧ a.length ≤ 1000 ∧ ∀ ps : List (List Nat), Txt.split (T a) (T [c]) = ps.map T → (∀ p ∈ ps, p.length ≤ a.length) → ∀ p, H p = none → Q (.ref p) (upd H p (.lst (ps.map fun l => V.str (T l))))
theorem vals_strs : ∀ {ls : List Str} {us : List Value}, StrsAre us ls → Vals (ls.map V.str) us
  | _, _, .nil => .nil
  | _, _, .cons _ t r => .cons ⟨t, rfl⟩ (vals_strs r)
theorem strs_from : ∀ (tk : Nat) (ls : List Str), StrsAre (strsFrom tk ls) ls
  | _, [] => .nil
  | tk, y :: r => .cons y tk (strs_from (tk + 1) r)
theorem T_of (x : Str) : x = T x.cps.toList := by
  apply ext_toList
  rw [T_cps]
theorem mt_split : MtR X "str.split" rSplit := by
  intro pins s σ H x xs v us Q I rx rs h
  obtain ⟨a, c, rfl, rfl, hz, q⟩ := h
  obtain ⟨t, rfl⟩ := rx
  obtain ⟨u, rfl, t2, rfl⟩ := rs.one
  have fin : ∀ (ls : List Str) (vals : List Value) (h' : Heap) (tk : Nat), Txt.split (T a) (T [c]) = ls → StrsAre vals ls → (∀ b o, s.heap.get? b = some o → h'.get? b = some o) →
      h'.get? s.heap.objs.size = some { cls := .type "list", data := .seq vals.toArray } → ls.length ≤ sizeLine → EP X pins σ Q (.ref s.heap.objs.size) { s with heap := h', toks := tk } := fun ls vals h' tk e r kp eo hl => by
    have e1 : ls = (ls.map (fun y => y.cps.toList)).map T := by
      rw [List.map_map]
      conv => lhs; rw [← List.map_id ls]
      exact List.map_congr_left fun y _ => T_of y
    have hv : Vals ((ls.map (fun y => y.cps.toList)).map fun l => V.str (T l)) vals := by
      have := vals_strs r
      rw [e1, List.map_map] at this
      exact this
    refine ⟨.ref s.heap.objs.size, _, I.laid (t' := tk) kp (Nat.le_refl _) (show ObjOk X.prog X.w _ h' _ (.lst ((ls.map (fun y => y.cps.toList)).map fun l => V.str (T l))) from ⟨by rw [List.length_map, List.length_map]; exact hl, vals, _, hv, eo⟩), rfl, ?_⟩
    refine q _ (e.trans e1) (fun p hp => ?_) _ I.fresh
    obtain ⟨y, hy, rfl⟩ := List.mem_map.mp hp
    have := part_short (x := T a) (y := T [c]) (by rw [e]; exact hy)
    rw [T_len] at this
    simpa [Str.length] using this
  have hy : ((T [c]).length == 0) = false := by rw [T_len]; rfl
  have hx : (T a).length ≤ sizeLine := by rw [T_len]; exact sz hz
  by_cases c1 : (decide ((T a).length < (T [c]).length) || decide (Builtin.Str.strKind (T a) < Builtin.Str.strKind (T [c]))) = true
  · refine call_meets F.slot_str_split (typeIs_str _ _ _) F.entry_str_split (F.args_str_split_2 _ _) (meets_str_split_cannot_occur (T a) (T [c]) t t2 c1) ?_
    refine fin [T a] [.str (T a) t] _ s.toks ?_ (.cons _ _ .nil) (fun b o e => Heap.get?_push_of_some _ e) (Heap.get?_push_size _ rfl) (by show 1 ≤ sizeLine; decide)
    unfold Txt.split
    rw [if_pos c1]
  · have c1' := Bool.eq_false_iff.mpr c1
    by_cases c2 : (Builtin.Str.occurrences (T a) (T [c]) 0 (T a).length ((T a).length + 1)).isEmpty = true
    · refine call_meets F.slot_str_split (typeIs_str _ _ _) F.entry_str_split (F.args_str_split_2 _ _) (meets_str_split_not_found (T a) (T [c]) t t2 c1' hy c2) ?_
      refine fin [T a] [.str (T a) t] _ s.toks ?_ (.cons _ _ .nil) (fun b o e => Heap.get?_push_of_some _ e) (Heap.get?_push_size _ rfl) (by show 1 ≤ sizeLine; decide)
      unfold Txt.split
      rw [if_neg c1, if_pos c2]
    · have c2' := Bool.eq_false_iff.mpr c2
      have hn : (Builtin.Str.partsBetween (T a) (Builtin.Str.occurrences (T a) (T [c]) 0 (T a).length ((T a).length + 1)) (T [c]).length).length ≤ sizeLine := by
        have e0 := StrLaws.occ_length_le (T a) (T [c]) 0 (T a).length ((T a).length + 1)
        have e2 : sizeLine = 16777216 := sizeLine_eq
        have e3 := T_len a
        rw [len_partsBetween]
        omega
      refine call_meets F.slot_str_split (typeIs_str _ _ _) F.entry_str_split (F.args_str_split_2 _ _) (meets_str_split_sep (T a) (T [c]) t t2 c1' hy c2' hx hn) ?_
      refine fin _ _ _ _ ?_ (strs_from _ _) (fun b o e => Heap.get?_push_of_some _ e) (Heap.get?_push_size _ rfl) hn
      unfold Txt.split
      rw [if_neg c1, if_neg c2]
end
end L2

namespace L2
open PySem PySem.Spec PyProof.Rows
def Ite (K : PySem.W.Frag) (a : Addr) : It :=
  ⟨fun i H => ∃ xs x, SqL K H a xs ∧ xs[i]? = some x, fun i H v H' => ∃ p x, v = .ref p ∧ H p = none ∧ (∀ xs, SqL K H a xs → xs[i]? = some x) ∧ H' = upd H p (.tup [.int (i : Int), x]), fun i H => ∃ xs, SqL K H a xs ∧ xs.length ≤ i⟩
section
variable {X : Cx}
def iEnum (K : PySem.W.Frag) (ta : TA) : TI := fun σ H R => ta σ H fun vs H1 => ∃ a, vs = [.ref a] ∧ (∃ xs, SqL K H1 a xs) ∧ R (Ite K a) H1
end
section
variable {X : Cx}
end
end L2

namespace L2
open PySem PySem.Spec PyProof.Rows
section
variable {prog : Program} {w : World} {A : Around} {R : Result → Shared → Prop} {s : Shared}
end
structure CompOk2 (X : Cx) (scope : Scope) (cl : List (Str × Addr)) (x x2 : Str) (fr : List (Nat × Str)) : Prop where
  one : CompOk X scope cl x fr
  var2 : scope.names.lookup x2 = some .local
  nd2 : (x :: x2 :: fr.map (·.2)).Nodup
def tComp2 (K : PySem.W.Frag) (fr : List (Nat × Str)) (wi : TI) (tt : TT) (te : TE) : TE := fun σ H Q => wi σ H fun J H1 => ∃ W : Nat → Nat → List V → Hp → Prop, (∃ m, W 0 m [] H1) ∧ ∀ i m ys H, W i m ys H →
  (J.stop i H ∧ ys.length ≤ sizeLine ∧ ∀ p, H p = none → Q (.ref p) (upd H p (.lst ys))) ∨
  (J.go i H ∧ ys.length < sizeLine ∧ ∀ x H', J.yld i H x H' → ∃ pa va vb, x = .ref pa ∧ SqT K H' pa [va, vb] ∧ tt (some va :: some vb :: drawn σ fr) H' fun ok H2 => if ok = true then te (some va :: some vb :: drawn σ fr) H2 fun y H3 => ∃ m', m' < m ∧ W (i + 1) m' (ys ++ [y]) H3 else ∃ m', m' < m ∧ W (i + 1) m' ys H2)
section
variable {X : Cx}
end
end L2

namespace L2
open PySem PySem.Spec PyProof.Rows
section
variable {X : Cx}
end
end L2
namespace L2
open PySem PySem.Spec PyProof.Rows
section
variable {X : Cx}
end
end L2

namespace Lamp
def joinN (c : Nat) : List (List Nat) → List Nat
  | [] => []
  | [x] => x
  | x :: y :: r => x ++ c :: joinN c (y :: r)
theorem cut_inj {c : Nat} : ∀ {x y a b : List Nat}, c ∉ x → c ∉ y → x ++ c :: a = y ++ c :: b → x = y ∧ a = b
  | [], [], a, b, _, _, h => ⟨rfl, by simpa using h⟩
  | [], w :: y, a, b, _, hy, h => by
    have e : c = w := by simpa using (List.cons.inj h).1
    exact absurd (by simp [e]) hy
  | v :: x, [], a, b, hx, _, h => by
    have e : v = c := by simpa using (List.cons.inj h).1
    exact absurd (by simp [e]) hx
  | v :: x, w :: y, a, b, hx, hy, h => by
    have h' := List.cons.inj h
    have ih := cut_inj (x := x) (y := y) (fun z => hx (List.mem_cons_of_mem _ z)) (fun z => hy (List.mem_cons_of_mem _ z)) h'.2
    exact ⟨by rw [h'.1, ih.1], ih.2⟩
theorem joinN_inj {c : Nat} : ∀ {ps qs : List (List Nat)}, ps ≠ [] → qs ≠ [] → (∀ p ∈ ps, c ∉ p) → (∀ q ∈ qs, c ∉ q) → joinN c ps = joinN c qs → ps = qs
  | [], _, h, _, _, _, _ => absurd rfl h
  | _, [], _, h, _, _, _ => absurd rfl h
  | [x], [y], _, _, _, _, h => by
    have : x = y := h
    rw [this]
  | [x], y :: z :: r, _, _, hp, _, h => by
    have e : x = y ++ c :: joinN c (z :: r) := h
    exact absurd (by rw [e]; simp) (hp x (by simp))
  | x :: z :: r, [y], _, _, _, hq, h => by
    have e : x ++ c :: joinN c (z :: r) = y := h
    exact absurd (by rw [← e]; simp) (hq y (by simp))
  | x :: x2 :: r, y :: y2 :: t, _, _, hp, hq, h => by
    have h' : x ++ c :: joinN c (x2 :: r) = y ++ c :: joinN c (y2 :: t) := h
    obtain ⟨e1, e2⟩ := cut_inj (hp x (by simp)) (hq y (by simp)) h'
    have ih := joinN_inj (ps := x2 :: r) (qs := y2 :: t) (by simp) (by simp) (fun p z => hp p (List.mem_cons_of_mem _ z)) (fun p z => hq p (List.mem_cons_of_mem _ z)) e2
    rw [e1, ih]
theorem joinN_snoc {c : Nat} {x : List Nat} : ∀ {ps : List (List Nat)}, ps ≠ [] → joinN c (ps ++ [x]) = joinN c ps ++ c :: x
  | [], h => absurd rfl h
  | [y], _ => rfl
  | y :: z :: r, _ => by
    have ih := joinN_snoc (c := c) (x := x) (ps := z :: r) (by simp)
    show y ++ c :: joinN c ((z :: r) ++ [x]) = (y ++ c :: joinN c (z :: r)) ++ c :: x
    rw [ih]; simp
theorem joinN_last {c : Nat} {x y : List Nat} : ∀ {ps : List (List Nat)}, joinN c (ps ++ [x ++ y]) = joinN c (ps ++ [x]) ++ y
  | [] => rfl
  | [z] => by show z ++ c :: (x ++ y) = (z ++ c :: x) ++ y; simp
  | a :: b :: r => by
    have ih := joinN_last (c := c) (x := x) (y := y) (ps := b :: r)
    show a ++ c :: joinN c ((b :: r) ++ [x ++ y]) = (a ++ c :: joinN c ((b :: r) ++ [x])) ++ y
    rw [ih]; simp
noncomputable def meas (l : List Nat) : Nat := if h : l = [] then 0 else Classical.choose (IsMeas.ex h)
theorem meas_is {l : List Nat} (h : l ≠ []) : IsMeas l (meas l) := by
  unfold meas; rw [dif_neg h]; exact Classical.choose_spec (IsMeas.ex h)
theorem IsMeas.eq {l : List Nat} {d : Nat} (h : IsMeas l d) : meas l = d := meas_uniq (meas_is h.ne) h
def nth (bk : List (List Nat)) (n : Nat) : List Nat := bk.getD n []
theorem nth_get {bk : List (List Nat)} {n : Nat} (h : n < bk.length) : bk[n]? = some (nth bk n) := by
  unfold nth; rw [List.getD_eq_getElem?_getD, List.getElem?_eq_getElem h]; rfl
theorem nth_mem {bk : List (List Nat)} {n : Nat} (h : n < bk.length) : nth bk n ∈ bk := List.mem_of_getElem? (nth_get h)
theorem nth_of {bk : List (List Nat)} {n : Nat} {l : List Nat} (h : bk[n]? = some l) : nth bk n = l := by
  unfold nth; rw [List.getD_eq_getElem?_getD, h]; rfl
noncomputable def spotsTo (bk : List (List Nat)) (i : Nat) : List (Nat × Nat) := (List.range i).flatMap fun n => (List.range (meas (nth bk n))).map fun m => (n, m)
noncomputable def moms (l s : List Nat) : List Nat := (List.range (meas l)).filter fun m => decide (sight l (m : Int) s.length = s)
noncomputable def fitTo (bk : List (List Nat)) (s : List Nat) (i : Nat) : List (Nat × Nat) := (List.range i).flatMap fun n => (moms (nth bk n) s).map fun m => (n, m)
noncomputable def fits (bk : List (List Nat)) (s : List Nat) : List (Nat × Nat) := fitTo bk s bk.length
noncomputable def spots (bk : List (List Nat)) : List (Nat × Nat) := spotsTo bk bk.length
theorem Parts.ex {a b : List Nat} {m k : Int} (ha : a ≠ []) (hb : b ≠ []) : (∃ n, Parts a m b k n) ∨ Alike a m b k := by
  by_cases h : ∀ i : Nat, i < a.length + b.length → at' a (m + (i : Int)) = at' b (k + (i : Int))
  · exact .inr (alike_of ha hb (Nat.le_refl _) h)
  · left
    have ex : ∃ i : Nat, at' a (m + (i : Int)) ≠ at' b (k + (i : Int)) := by
      apply Classical.byContradiction
      intro z
      exact h fun i _ => Classical.byContradiction fun q => z ⟨i, q⟩
    have strong : ∀ N, (∃ i : Nat, i < N ∧ at' a (m + (i : Int)) ≠ at' b (k + (i : Int))) → ∃ i : Nat, at' a (m + (i : Int)) ≠ at' b (k + (i : Int)) ∧ ∀ j, j < i → at' a (m + (j : Int)) = at' b (k + (j : Int)) := by
      intro N
      induction N with
      | zero => rintro ⟨i, hi, _⟩; omega
      | succ N ih =>
        rintro ⟨i, hi, hd⟩
        by_cases c : ∃ j : Nat, j < N ∧ at' a (m + (j : Int)) ≠ at' b (k + (j : Int))
        · exact ih c
        · have e : i = N := by
            apply Classical.byContradiction
            intro z
            exact c ⟨i, by omega, hd⟩
          refine ⟨i, hd, fun j hj => Classical.byContradiction fun q => c ⟨j, by omega, q⟩⟩
    obtain ⟨i0, h0⟩ := ex
    obtain ⟨i, hd, hs⟩ := strong (i0 + 1) ⟨i0, by omega, h0⟩
    exact ⟨i + 1, by omega, fun j hj => hs j (by omega), by simpa using hd⟩
theorem Parts.rest {a b : List Nat} {m k : Int} {d e n : Nat} (ha : P (at' a) (d : Int)) (hb : P (at' b) (e : Int)) (h : Parts a m b k n) : Parts a (m % (d : Int)) b (k % (e : Int)) n := by
  have q : ∀ (l : List Nat) (d : Nat) (m i : Int), P (at' l) (d : Int) → at' l (m % (d : Int) + i) = at' l (m + i) := fun l d m i hp => by
    have e : m + i = m % (d : Int) + i + (m / (d : Int)) * (d : Int) := by
      have := Int.emod_add_mul_ediv m (d : Int)
      rw [Int.mul_comm] at this
      omega
    rw [e]
    exact (hp.mul (m / (d : Int)) _).symm
  exact ⟨h.pos, fun j hj => by rw [q a d m _ ha, q b e k _ hb]; exact h.same j hj, by rw [q a d m _ ha, q b e k _ hb]; exact h.diff⟩
structure IsGp (a b : List Nat) (g : Nat) : Prop where
  top : ∀ m k n, Parts a m b k n → n ≤ g
  met : g = 0 ∨ ∃ m k, Parts a m b k g
structure IsWatch (bk : List (List Nat)) (w : Nat) : Prop where
  top : ∀ i j m k n, i < bk.length → j < bk.length → Parts (nth bk i) m (nth bk j) k n → n ≤ w
  met : w = 0 ∨ ∃ i j m k, i < bk.length ∧ j < bk.length ∧ Parts (nth bk i) m (nth bk j) k w
theorem IsWatch.uniq {bk : List (List Nat)} {v w : Nat} (h : IsWatch bk v) (h' : IsWatch bk w) : v = w := by
  have le : ∀ {v w : Nat}, IsWatch bk v → IsWatch bk w → v ≤ w := fun {v w} h h' => by
    rcases h.met with z | ⟨i, j, m, k, hi, hj, z⟩
    · omega
    · exact h'.top i j m k v hi hj z
  exact Nat.le_antisymm (le h h') (le h' h)
noncomputable def turnO (a b : List Nat) : Option Nat := open Classical in if h : ∃ m, IsTurn a b m then some (Classical.choose h) else none
noncomputable def twRow (bk : List (List Nat)) (one j : Nat) : List (List Nat) := (List.range j).flatMap fun d => match turnO (nth bk one) (nth bk (one + 1 + d)) with | some t => [[one, one + 1 + d, t]] | none => []
noncomputable def twTo (bk : List (List Nat)) (i : Nat) : List (List Nat) := (List.range i).flatMap fun one => twRow bk one (bk.length - (one + 1))
end Lamp
namespace Lamp
end Lamp
namespace Lamp
def sureN (fs : List (Nat × Nat)) : Option Nat := match fs.head?, fs.getLast? with
  | some a, some b => if a.1 = b.1 then some a.1 else none
  | _, _ => none
noncomputable def sgs (bk : List (List Nat)) (s : List Nat) : List Nat := (fits bk s).map fun p => at' (nth bk p.1) ((p.2 : Int) + (s.length : Int))
noncomputable def comesT (bk : List (List Nat)) (s : List Nat) : List Nat := [46, 111].filter fun c => decide (c ∈ sgs bk s)
end Lamp

namespace Lw
open PySem PySem.Spec PyProof.Rows L2 Lamp
abbrev strT (l : List Nat) : V := .str (T l)
abbrev Bk (K : PySem.W.Frag) (H : Hp) (a : Addr) (bk : List (List Nat)) : Prop := SqL K H a (bk.map strT)
structure BkOk (bk : List (List Nat)) : Prop where
  lo : 1 ≤ bk.length
  hi : bk.length ≤ 5
  lit : ∀ l ∈ bk, Lit l
theorem BkOk.nth {bk : List (List Nat)} (h : BkOk bk) {n : Nat} (hn : n < bk.length) : Lit (nth bk n) := h.lit _ (nth_mem hn)
theorem strT_get {bk : List (List Nat)} {n : Nat} (h : n < bk.length) : (bk.map strT)[n]? = some (strT (nth bk n)) := by rw [List.getElem?_map, nth_get h]; rfl
theorem strT_atI {bk : List (List Nat)} {i : Int} (h0 : 0 ≤ i) (h : i < bk.length) : atI (bk.map strT) i = some (strT (nth bk i.toNat)) := by
  have := atI_nat (strT_get (bk := bk) (n := i.toNat) (by omega))
  rw [show ((i.toNat : Nat) : Int) = i by omega] at this
  exact this
theorem flat_strT (bk : List (List Nat)) : (bk.map strT).all flatV = true := by
  rw [List.all_eq_true]
  intro x hx
  obtain ⟨l, _, rfl⟩ := List.mem_map.mp hx
  rfl
theorem eqVs_strT (bk : List (List Nat)) : eqVs (bk.map strT) (bk.map strT) = true := eqVs_refl (flat_strT bk)
def sp_check_book (K : PySem.W.Frag) : Sp := fun vs H Q _ => ∃ (a : Addr) (bk : List (List Nat)), vs = [.ref a] ∧ Bk K H a bk ∧ BkOk bk ∧ Q .non H
def sp_check_sight (_ : PySem.W.Frag) : Sp := fun vs H Q _ => ∃ s, vs = [.str (T s)] ∧ s.length ≤ 100 ∧ isLit s = true ∧ Q .non H
def sp_law_book_by (K : PySem.W.Frag) : Sp := fun vs H Q _ => ∃ (a : Addr) (ns : List Int), vs = [.ref a] ∧ SqL K H a (ns.map V.int) ∧
  ∀ (bk : List (List Nat)) (p : Addr) (H' : Hp), BkOk bk → Same H H' → H p = none → H' p = some (.lst (bk.map strT)) → Q (.ref p) H'
def sp_shown (K : PySem.W.Frag) : Sp := fun vs H Q _ => ∃ (a : Addr) (bk : List (List Nat)), vs = [.ref a] ∧ Bk K H a bk ∧ BkOk bk ∧ Q (.str (T (joinN 47 bk))) H
def sp_read (_ : PySem.W.Frag) : Sp := fun vs H Q _ => ∃ bk, vs = [.str (T (joinN 47 bk))] ∧ BkOk bk ∧ ∀ p H', Same H H' → H p = none → H' p = some (.lst (bk.map strT)) → Q (.ref p) H'
theorem Lit.free {l : List Nat} (h : Lit l) : 47 ∉ l := fun z => by rcases h.2.2 47 z with e | e <;> omega
theorem join_T2 (c : Nat) (ps : List (List Nat)) : Txt.join (T [c]) (ps.map T) = T (joinN c ps) := by
  rw [show Txt.join (T [c]) (ps.map T) = Builtin.Str.glued (T [c]) (ps.map T) from rfl, StrLaws.glued_eq_join]
  induction ps with
  | nil => rfl
  | cons x r ih =>
    cases r with
    | nil => rfl
    | cons y r =>
      show T x ++ T [c] ++ Str.join (T [c]) ((y :: r).map T) = T (x ++ c :: joinN c (y :: r))
      rw [ih, T_app, T_app]
      simp
theorem split_is {c : Nat} {bk ps : List (List Nat)} (h0 : bk ≠ []) (hf : ∀ l ∈ bk, c ∉ l) (h : Txt.split (T (joinN c bk)) (T [c]) = ps.map T) : ps = bk := by
  have h1 := StrLaws.join_split (T (joinN c bk)) (T [c])
  have h2 := StrLaws.split_free (T (joinN c bk)) c
  rw [T_one, h] at h2
  rw [h, show Str.join (T [c]) (ps.map T) = Txt.join (T [c]) (ps.map T) from (StrLaws.glued_eq_join _ _).symm, join_T2] at h1
  have ne : ps ≠ [] := by
    intro e
    subst e
    have z := StrLaws.partsFrom_ne
    unfold Txt.split at h
    split at h
    · cases h
    · split at h
      · cases h
      · rw [StrLaws.partsBetween_eq] at h
        obtain ⟨p, r, e⟩ := z (T (joinN c bk)) (T [c]).length 0 (Builtin.Str.occurrences (T (joinN c bk)) (T [c]) 0 (T (joinN c bk)).length ((T (joinN c bk)).length + 1))
        rw [e] at h; cases h
  refine joinN_inj (c := c) ne h0 (fun p hp => ?_) hf (T_inj h1)
  have := h2 (T p) (List.mem_map.mpr ⟨p, hp, rfl⟩)
  rw [T_cps] at this
  exact this
abbrev pairV (p : Nat × Nat) : List V := [.int (p.1 : Int), .int (p.2 : Int)]
abbrev intsV (ns : List Nat) : List V := ns.map fun (n : Nat) => V.int (n : Int)
def TupRes (H : Hp) (Q : VK) (ts : List (List V)) : Prop := ∀ (p : Addr) (ys : List V) (H' : Hp), Same H H' → H p = none → H' p = some (.lst ys) → Tups H' ys ts → Q (.ref p) H'
def sp_fitting_moments (_ : PySem.W.Frag) : Sp := fun vs H Q _ => ∃ l s, vs = [.str (T l), .str (T s)] ∧ Lit l ∧ s.length ≤ 100 ∧ ∀ p H', Same H H' → H p = none → H' p = some (.lst (intsV (moms l s))) → Q (.ref p) H'
def sp_fitting (K : PySem.W.Frag) : Sp := fun vs H Q _ => ∃ (a : Addr) (bk : List (List Nat)) (s : List Nat), vs = [.ref a, .str (T s)] ∧ Bk K H a bk ∧ BkOk bk ∧ s.length ≤ 100 ∧ isLit s = true ∧ TupRes H Q ((fits bk s).map pairV)
def sp_law_fits (K : PySem.W.Frag) : Sp := fun vs H Q _ => ∃ (a : Addr) (bk : List (List Nat)) (s : List Nat), vs = [.ref a, .str (T s)] ∧ Bk K H a bk ∧ BkOk bk ∧ s.length ≤ 100 ∧ TupRes H Q ((fits bk s).map pairV)
def sp_law_spots (K : PySem.W.Frag) : Sp := fun vs H Q _ => ∃ (a : Addr) (bk : List (List Nat)), vs = [.ref a] ∧ Bk K H a bk ∧ BkOk bk ∧ TupRes H Q ((spots bk).map pairV)
def sp_law_sight_by (K : PySem.W.Frag) : Sp := fun vs H Q _ => ∃ (a b : Addr) (ns : List Int) (bk : List (List Nat)), vs = [.ref a, .ref b] ∧ SqL K H a (ns.map V.int) ∧ Bk K H b bk ∧ BkOk bk ∧ ∀ s H', Same H H' → s.length ≤ 100 → isLit s = true → Q (.str (T s)) H'
def sp_law_tuples (_ : PySem.W.Frag) : Sp := fun vs H Q _ => ∃ (p q : Addr) (ys zs : List V) (ts : List (List Nat)), vs = [.ref p, .ref q] ∧ H p = some (.lst ys) ∧ H q = some (.lst zs) ∧ Tups H ys (ts.map intsV) ∧ Tups H zs (ts.map intsV) ∧ ts.length ≤ 1000 ∧ Q (.bl true) H
def sp_twins (K : PySem.W.Frag) : Sp := fun vs H Q _ => ∃ (a : Addr) (bk : List (List Nat)), vs = [.ref a] ∧ Bk K H a bk ∧ BkOk bk ∧ TupRes H Q ((twTo bk bk.length).map intsV)
def sp_greatest_parting (_ : PySem.W.Frag) : Sp := fun vs H Q _ => ∃ a b, vs = [.str (T a), .str (T b)] ∧ Lit a ∧ Lit b ∧ ∀ g : Nat, IsGp a b g → Q (.int (g : Int)) H
def sp_watch (K : PySem.W.Frag) : Sp := fun vs H Q _ => ∃ (a : Addr) (bk : List (List Nat)), vs = [.ref a] ∧ Bk K H a bk ∧ BkOk bk ∧ ∀ w H', IsWatch bk w → Same H H' → Q (.int (w : Nat)) H'
end Lw
namespace Lw
open PySem PySem.Spec PyProof.Rows L2 Lamp
theorem strT_of {bk : List (List Nat)} {i : Nat} {x : V} (h : (bk.map strT)[i]? = some x) : i < bk.length ∧ x = strT (nth bk i) := by
  have hi : i < bk.length := by have := (List.getElem?_eq_some_iff.mp h).1; rwa [List.length_map] at this
  rw [strT_get hi] at h
  exact ⟨hi, (Option.some.inj h).symm⟩
theorem take_snoc {α : Type} {l : List α} {j : Nat} {m : α} (h : l[j]? = some m) : l.take (j + 1) = l.take j ++ [m] := by rw [List.take_add_one, h]; rfl
end Lw
namespace Lw
open PySem PySem.Spec PyProof.Rows L2 Lamp
end Lw
namespace Lw
open PySem PySem.Spec PyProof.Rows L2 Lamp
def Apart (bk : List (List Nat)) (n i : Nat) (m : Int) : Prop := ∃ p ∈ fits bk (sight (nth bk i) m n), ¬ Alike (nth bk i) m (nth bk p.1) (p.2 : Int)
def sp_law_apart (K : PySem.W.Frag) : Sp := fun vs H Q _ => ∃ (a : Addr) (bk : List (List Nat)) (n i : Nat) (m : Int), vs = [.ref a, .int (n : Int), .int (i : Int), .int m] ∧ Bk K H a bk ∧ BkOk bk ∧ n ≤ 100 ∧ i < bk.length ∧
  ∀ H', Same H H' → (Apart bk n i m → Q (.bl true) H') ∧ (¬ Apart bk n i m → Q (.bl false) H')
theorem cut_drop {bk : List (List Nat)} {i : Nat} (h : i ≤ bk.length) : cutV (bk.map strT) (some (i : Int)) none = (bk.drop i).map strT := by
  unfold cutV
  rw [HT.sIx_none, HT.sIx_nat, List.length_map, Nat.min_eq_left h, List.map_drop]
  exact List.take_of_length_le (by rw [List.length_drop, List.length_map]; exact Nat.le_refl _)
theorem BkOk.take {bk : List (List Nat)} (h : BkOk bk) {n : Nat} (hn : 1 ≤ n) : BkOk (bk.take n) := by
  have := h.lo
  have := h.hi
  exact ⟨by rw [List.length_take]; omega, by rw [List.length_take]; omega, fun l hl => h.lit l (List.mem_of_mem_take hl)⟩
end Lw

namespace Lw
open PySem PySem.Spec PyProof.Rows L2 Lamp
structure Cs where
  (LampError NoLight NoBook NoSight NoFit TooLong NoNote : Addr)
def sureV (fs : List (Nat × Nat)) : V := match sureN fs with
  | some n => .int (n : Int)
  | none => .non
def sp_some_fitting (K : PySem.W.Frag) : Sp := fun vs H Q _ => ∃ (a : Addr) (bk : List (List Nat)) (s : List Nat), vs = [.ref a, .str (T s)] ∧ Bk K H a bk ∧ BkOk bk ∧ s.length ≤ 100 ∧ isLit s = true ∧ fits bk s ≠ [] ∧ TupRes H Q ((fits bk s).map pairV)
def sp_sure (K : PySem.W.Frag) : Sp := fun vs H Q _ => ∃ (a : Addr) (bk : List (List Nat)) (s : List Nat), vs = [.ref a, .str (T s)] ∧ Bk K H a bk ∧ BkOk bk ∧ s.length ≤ 100 ∧ isLit s = true ∧ fits bk s ≠ [] ∧ ∀ H', Same H H' → Q (sureV (fits bk s)) H'
def sp_coming (K : PySem.W.Frag) : Sp := fun vs H Q _ => ∃ (a : Addr) (bk : List (List Nat)) (s : List Nat), vs = [.ref a, .str (T s)] ∧ Bk K H a bk ∧ BkOk bk ∧ s.length ≤ 100 ∧ isLit s = true ∧ fits bk s ≠ [] ∧ ∀ H', Same H H' → Q (.str (T (comesT bk s))) H'
def sp_some_fittingE (K : PySem.W.Frag) (c : Cs) : Sp := fun vs H Q E => ∃ (a : Addr) (bk : List (List Nat)) (s : List Nat), vs = [.ref a, .str (T s)] ∧ Bk K H a bk ∧ BkOk bk ∧ s.length ≤ 100 ∧ isLit s = true ∧ (fits bk s ≠ [] → TupRes H Q ((fits bk s).map pairV)) ∧ (fits bk s = [] → ∀ H', Same H H' → E (.ref c.NoFit) none H')
def sp_sureE (K : PySem.W.Frag) (c : Cs) : Sp := fun vs H Q E => ∃ (a : Addr) (bk : List (List Nat)) (s : List Nat), vs = [.ref a, .str (T s)] ∧ Bk K H a bk ∧ BkOk bk ∧ s.length ≤ 100 ∧ isLit s = true ∧ (fits bk s ≠ [] → ∀ H', Same H H' → Q (sureV (fits bk s)) H') ∧ (fits bk s = [] → ∀ H', Same H H' → E (.ref c.NoFit) none H')
def sp_comingE (K : PySem.W.Frag) (c : Cs) : Sp := fun vs H Q E => ∃ (a : Addr) (bk : List (List Nat)) (s : List Nat), vs = [.ref a, .str (T s)] ∧ Bk K H a bk ∧ BkOk bk ∧ s.length ≤ 100 ∧ isLit s = true ∧ (fits bk s ≠ [] → ∀ H', Same H H' → Q (.str (T (comesT bk s))) H') ∧ (fits bk s = [] → ∀ H', Same H H' → E (.ref c.NoFit) none H')
def sp_sign_of_both (_ : PySem.W.Frag) : Sp := fun vs H Q _ => ∃ a b m, vs = [.str (T a), .str (T b), .int m] ∧ Lit a ∧ Lit b ∧ Q (.str (T [lit2 a b m])) H
def sp_bothE (_ : PySem.W.Frag) (c : Cs) : Sp := fun vs H Q E => ∃ a b, vs = [.str (T a), .str (T b)] ∧ Lit a ∧ Lit b ∧ ∀ d, IsMeas (firsts (lit2 a b) (a.length * b.length)) d → ∀ H', Same H H' → (d ≤ 12 → Q (.str (T (firsts (lit2 a b) d))) H') ∧ (12 < d → E (.ref c.TooLong) none H')
theorem atI_neg1 {α : Type} {xs : List α} {v : α} (h : xs.getLast? = some v) : atI xs (-1) = some v := by
  obtain ⟨ini, rfl⟩ := List.getLast?_eq_some_iff.mp h
  exact atI_last ini v
abbrev sign1 (c : Nat) : V := .str (T [c])
theorem found_sign (x : List Nat) (c : Nat) : (!(Builtin.Str.occurrences (T x) (T [c]) 0 (T x).length 1).isEmpty) = decide (c ∈ x) := by
  have := StrLaws.found_one (T x) c
  rw [T_cps] at this
  exact this
end Lw
namespace Lw
open PySem PySem.Spec PyProof.Rows L2 Lamp
structure Kd (K : PySem.W.Frag) (c : Cs) (D : Addr) (j : Nat) : Prop where
  pl : PlainCls K D
  k0 : PySem.W.kitOne K (.ref D) (.ref c.NoLight) = some (decide (j = 0))
  k1 : PySem.W.kitOne K (.ref D) (.ref c.NoBook) = some (decide (j = 1))
  k2 : PySem.W.kitOne K (.ref D) (.ref c.NoSight) = some (decide (j = 2))
  k3 : PySem.W.kitOne K (.ref D) (.ref c.NoFit) = some (decide (j = 3))
  k4 : PySem.W.kitOne K (.ref D) (.ref c.TooLong) = some (decide (j = 4))
  k5 : PySem.W.kitOne K (.ref D) (.ref c.NoNote) = some (decide (j = 5))
  ve : PySem.W.kitOne K (.ref D) (.type "ValueError") = some true
  lt : j < 6
def words : List (List Nat) := [[108, 105, 103, 104, 116], [98, 111, 111, 107], [115, 105, 103, 104, 116], [102, 105, 116], [108, 111, 110, 103], [110, 111, 116, 101]]
def word (j : Nat) : List Nat := words.getD j []
def kinds6 (j : Nat) : List Bool := [decide (j = 0), decide (j = 1), decide (j = 2), decide (j = 3), decide (j = 4), decide (j = 5)]
theorem kinds_count {j : Nat} (h : j < 6) : (kinds6 j).countP (· == true) = 1 := by
  rcases (show j = 0 ∨ j = 1 ∨ j = 2 ∨ j = 3 ∨ j = 4 ∨ j = 5 by omega) with z | z | z | z | z | z <;> subst z <;> rfl
theorem kinds_at {j : Nat} (h : j < 6) : (kinds6 j)[j]? = some true := by
  rcases (show j = 0 ∨ j = 1 ∨ j = 2 ∨ j = 3 ∨ j = 4 ∨ j = 5 by omega) with z | z | z | z | z | z <;> subst z <;> rfl
theorem kinds_no {j : Nat} (h : j < 6) : ∀ i, i < j → (kinds6 j)[i]? ≠ some true := by
  intro i hi
  rcases (show j = 0 ∨ j = 1 ∨ j = 2 ∨ j = 3 ∨ j = 4 ∨ j = 5 by omega) with z | z | z | z | z | z <;> subst z <;>
    rcases (show i = 0 ∨ i = 1 ∨ i = 2 ∨ i = 3 ∨ i = 4 by omega) with y | y | y | y | y <;> subst y <;> first | omega | (intro q; exact absurd (Option.some.inj q) (by decide))
theorem word_at {j : Nat} (h : j < 6) : atI (words.map strT) (j : Int) = some (.str (T (word j))) := by
  refine atI_nat ?_
  rcases (show j = 0 ∨ j = 1 ∨ j = 2 ∨ j = 3 ∨ j = 4 ∨ j = 5 by omega) with z | z | z | z | z | z <;> subst z <;> rfl
def sp_law_word_of (K : PySem.W.Frag) (c : Cs) : Sp := fun vs H Q _ => ∃ (ea D : Addr) (j : Nat), vs = [.ref ea] ∧ H ea = some (excO ea (.ref D)) ∧ Kd K c D j ∧ ∀ H', Same H H' → Q (.str (T (word j))) H'
theorem boot_ValueError : bootBuiltins "ValueError" = some (.type "ValueError") := by decide +kernel
def refusedT : List Nat := [114, 101, 102, 117, 115, 101, 100, 32]
def tri13 (a b : List Nat) (d : Nat) : List Nat := if d ≤ 12 then firsts (lit2 a b) d else refusedT ++ word 4
def sp_tried13 (_ : PySem.W.Frag) : Sp := fun vs H Q _ => ∃ a b, vs = [.str (T a), .str (T b)] ∧ Lit a ∧ Lit b ∧ ∀ d, IsMeas (firsts (lit2 a b) (a.length * b.length)) d → ∀ H', Same H H' → Q (.str (T (tri13 a b d))) H'
theorem Lit.pos {l : List Nat} (h : Lit l) : 0 < l.length := h.1
end Lw
namespace Lw
open PySem PySem.Spec PyProof.Rows L2 Lamp
noncomputable def tr11 (w : Int) (bk : List (List Nat)) (s : List Nat) : V := open Classical in if fits bk s = [] then .str (T (refusedT ++ word 3)) else if w = 0 then sureV (fits bk s) else .str (T (comesT bk s))
def sp_tried11 (K : PySem.W.Frag) : Sp := fun vs H Q _ => ∃ (w : Int) (a : Addr) (bk : List (List Nat)) (s : List Nat), vs = [.int w, .ref a, .str (T s)] ∧ (w = 0 ∨ w = 1) ∧ Bk K H a bk ∧ BkOk bk ∧ s.length ≤ 100 ∧ isLit s = true ∧ ∀ H', Same H H' → Q (tr11 w bk s) H'
end Lw

namespace L2
open PySem PySem.Spec PyProof.Rows
def spOr (a b : Sp) : Sp := fun vs H Q E => a vs H Q E ∨ b vs H Q E
section
variable {P : Program} {w : World} {K : PySem.W.Frag} {mg : Str → Option Value} {base : Heap}
theorem FnOk.or {k : Nat} {f : Addr} {fd : FuncData} {ps : List Str} {a b : Sp} (F : FnOk P w K mg base (CXE P w) k f fd ps a) (G : FnOk P w K mg base (CXE P w) k f fd ps b) : FnOk P w K mg base (CXE P w) k f fd ps (spOr a b) :=
  ⟨fun vs H Q E h => h.elim (F.len vs H Q E) (G.len vs H Q E), fun A outer s H args us vs Q E hr e0 hb r h => h.elim (F.run A outer s H args us vs Q E hr e0 hb r) (G.run A outer s H args us vs Q E hr e0 hb r)⟩
end
end L2
namespace Lw
open PySem PySem.Spec PyProof.Rows L2 Lamp
def sp_check_lightB (_ : PySem.W.Frag) (c : Cs) : Sp := fun vs H _ E => ∃ l, vs = [.str (T l)] ∧ l.length ≤ 1000 ∧ ¬ Lit l ∧ E (.ref c.NoLight) none H
def sp_shortestB := sp_check_lightB
def sp_seenB (_ : PySem.W.Frag) (c : Cs) : Sp := fun vs H _ E => ∃ l m n, vs = [.str (T l), .int m, .int n] ∧ l.length ≤ 1000 ∧ ((¬ Lit l ∧ E (.ref c.NoLight) none H) ∨ (Lit l ∧ ¬ (0 ≤ n ∧ n ≤ 100) ∧ E (.ref c.NoSight) none H))
def sp_turnB (_ : PySem.W.Frag) (c : Cs) : Sp := fun vs H _ E => ∃ a b, vs = [.str (T a), .str (T b)] ∧ a.length ≤ 1000 ∧ b.length ≤ 1000 ∧ ¬ (Lit a ∧ Lit b) ∧ E (.ref c.NoLight) none H
def sp_bothB := sp_turnB
def sp_partingB (_ : PySem.W.Frag) (c : Cs) : Sp := fun vs H _ E => ∃ a m b k, vs = [.str (T a), .int m, .str (T b), .int k] ∧ a.length ≤ 1000 ∧ b.length ≤ 1000 ∧ ¬ (Lit a ∧ Lit b) ∧ E (.ref c.NoLight) none H
def lenOk (bk : List (List Nat)) : Prop := 1 ≤ bk.length ∧ bk.length ≤ 5
def litsOk (bk : List (List Nat)) : Prop := ∀ l ∈ bk, Lit l
structure Szs (bk : List (List Nat)) : Prop where
  len : bk.length ≤ 900
  each : ∀ l ∈ bk, l.length ≤ 900
theorem BkOk.of {bk : List (List Nat)} (h1 : lenOk bk) (h2 : litsOk bk) : BkOk bk := ⟨h1.1, h1.2, h2⟩
def BkBad (c : Cs) (bk : List (List Nat)) (H : Hp) (E : XK) : Prop := (¬ lenOk bk ∧ E (.ref c.NoBook) none H) ∨ (lenOk bk ∧ ¬ litsOk bk ∧ E (.ref c.NoLight) none H)
def sOk (s : List Nat) : Prop := s.length ≤ 100 ∧ isLit s = true
def FitBad (c : Cs) (bk : List (List Nat)) (s : List Nat) (H : Hp) (E : XK) : Prop := BkBad c bk H E ∨ (BkOk bk ∧ ¬ sOk s ∧ E (.ref c.NoSight) none H)
def sp_check_bookB (K : PySem.W.Frag) (c : Cs) : Sp := fun vs H _ E => ∃ (a : Addr) (bk : List (List Nat)), vs = [.ref a] ∧ Bk K H a bk ∧ Szs bk ∧ BkBad c bk H E
def sp_watchB := sp_check_bookB
def sp_twinsB := sp_check_bookB
def sp_shownB := sp_check_bookB
def sp_check_sightB (_ : PySem.W.Frag) (c : Cs) : Sp := fun vs H _ E => ∃ s, vs = [.str (T s)] ∧ s.length ≤ 900 ∧ ¬ sOk s ∧ E (.ref c.NoSight) none H
def sp_fittingB (K : PySem.W.Frag) (c : Cs) : Sp := fun vs H _ E => ∃ (a : Addr) (bk : List (List Nat)) (s : List Nat), vs = [.ref a, .str (T s)] ∧ Bk K H a bk ∧ Szs bk ∧ s.length ≤ 900 ∧ FitBad c bk s H E
def sp_some_fittingB := sp_fittingB
def sp_sureB := sp_fittingB
def sp_comingB := sp_fittingB
def sp_law_of_lights (_ : PySem.W.Frag) (c : Cs) : Sp := fun vs H Q E => ∃ (w : Int) (a b : List Nat) (n : Int), vs = [.int w, .str (T a), .str (T b), .int n] ∧ a.length ≤ 900 ∧ Lit b ∧ 0 ≤ w ∧
  ∀ H', Same H H' → (w < 8 → ¬ Lit a → E (.ref c.NoLight) none H') ∧ (w = 0 → Lit a → ¬ (0 ≤ n ∧ n ≤ 100) → E (.ref c.NoSight) none H') ∧ ((w = 6 ∨ w = 7) → Lit a → E (.ref c.TooLong) none H') ∧ ((w < 8 → Lit a) → (w = 0 → 0 ≤ n ∧ n ≤ 100) → Q .non H')
def sp_law_of_books (K : PySem.W.Frag) (c : Cs) : Sp := fun vs H Q E => ∃ (w : Int) (p : Addr) (bk : List (List Nat)) (s : List Nat), vs = [.int w, .ref p, .str (T s)] ∧ Bk K H p bk ∧ Szs bk ∧ s.length ≤ 900 ∧ (sOk s → s = []) ∧ w < 14 ∧
  ∀ H', Same H H' → (7 < w → ¬ lenOk bk → E (.ref c.NoBook) none H') ∧ (7 < w → lenOk bk → ¬ litsOk bk → E (.ref c.NoLight) none H') ∧ (7 < w → w < 11 → BkOk bk → ¬ sOk s → E (.ref c.NoSight) none H') ∧ ((7 < w → BkOk bk) → (7 < w → w < 11 → sOk s) → Q .non H')
def doneT : List Nat := [100, 111, 110, 101]
open Classical in
noncomputable def dueOf (w : Int) (a : List Nat) (n : Int) (bk : List (List Nat)) (s : List Nat) : List Nat :=
  if w < 8 then (if ¬ Lit a then word 0 else if w = 0 ∧ ¬ (0 ≤ n ∧ n ≤ 100) then word 2 else doneT) else (if ¬ lenOk bk then word 1 else if ¬ litsOk bk then word 0 else if w < 11 ∧ ¬ sOk s then word 2 else doneT)
def Res14 (w : Int) (a : List Nat) (n : Int) (bk : List (List Nat)) (s r : List Nat) : Prop := r = dueOf w a n bk s ∨ ((w = 6 ∨ w = 7) ∧ dueOf w a n bk s = doneT ∧ r = word 4)
def sp_tried14 (K : PySem.W.Frag) : Sp := fun vs H Q _ => ∃ (w : Int) (a b : List Nat) (n : Int) (p : Addr) (bk : List (List Nat)) (s : List Nat), vs = [.int w, .str (T a), .str (T b), .int n, .ref p, .str (T s)] ∧ 0 ≤ w ∧ w < 14 ∧ a.length ≤ 900 ∧ Lit b ∧ Bk K H p bk ∧ Szs bk ∧ s.length ≤ 900 ∧ (sOk s → s = []) ∧
  ∀ r H', Same H H' → Res14 w a n bk s r → Q (.str (T r)) H'
def oneT : List Nat := [111, 110, 101]
def sightT : List Nat := [115, 105, 103, 104, 116]
open Classical in
noncomputable def dueW (w : Int) (bd : List (List Nat)) : List Nat :=
  if w < 8 ∧ oneT ∈ bd then word 0 else if w = 0 ∧ word 4 ∈ bd then word 2 else if 7 < w ∧ word 1 ∈ bd then word 1 else if 7 < w ∧ word 0 ∈ bd then word 0 else if 7 < w ∧ w < 11 ∧ word 2 ∈ bd then word 2 else doneT
def sp_due14 (K : PySem.W.Frag) : Sp := fun vs H Q _ => ∃ (w : Int) (p : Addr) (bd : List (List Nat)), vs = [.int w, .ref p] ∧ SqL K H p (bd.map strT) ∧ Q (.str (T (dueW w bd))) H
def sp_law_bad_light (_ : PySem.W.Frag) : Sp := fun vs H Q _ => ∃ l cell, vs = [.str (T l), .int cell] ∧ Lit l ∧ 0 ≤ cell ∧ ∀ l' H', Same H H' → ¬ Lit l' → l'.length ≤ 900 → Q (.str (T l')) H'
structure Spoilt (bk : List (List Nat)) (s : List Nat) (ws : List (List Nat)) : Prop where
  szs : Szs bk
  slen : s.length ≤ 900
  semp : sOk s → s = []
  wb : word 1 ∈ ws ↔ ¬ lenOk bk
  wl : lenOk bk → (word 0 ∈ ws ↔ ¬ litsOk bk)
  wsi : word 2 ∈ ws ↔ ¬ sOk s
  no1 : oneT ∉ ws
  no4 : word 4 ∉ ws
  few : ws.length ≤ 3
def Kp (pb : Addr) (H H' : Hp) : Prop := ∀ b o, b ≠ pb → H b = some o → H' b = some o
def sp_spoilt14 (K : PySem.W.Frag) : Sp := fun vs H Q _ => ∃ (a p pb : Addr) (ns : List Int) (bk : List (List Nat)) (xs : List V), vs = [.ref a, .ref p, .ref pb] ∧ (∀ H', Kp pb H H' → SqL K H' a (ns.map V.int)) ∧ H p = some (.lst (bk.map strT)) ∧ BkOk bk ∧ H pb = some (.lst xs) ∧ xs.length ≤ 100 ∧ p ≠ pb ∧
  ∀ (bk' ws : List (List Nat)) (p' pt : Addr) (sg : List Nat) (H' : Hp), Spoilt bk' sg ws → Kp pb H H' → H' pb = some (.lst (xs ++ ws.map strT)) → p' ≠ pb → H' p' = some (.lst (bk'.map strT)) → H' pt = some (.tup [.ref p', .str (T sg)]) → Q (.ref pt) H'
theorem Szs.of {bk : List (List Nat)} (h : BkOk bk) : Szs bk := ⟨by have := h.hi; omega, fun l hl => by have := (h.lit l hl).2.1; omega⟩
end Lw
namespace Lw
open PySem PySem.Spec PyProof.Rows L2 Lamp
theorem Kp.refl (pb : Addr) (H : Hp) : Kp pb H H := fun _ _ _ h => h
theorem Kp.same {pb : Addr} {H H1 H2 : Hp} (k : Kp pb H H1) (g : Same H1 H2) : Kp pb H H2 := fun b o n h => g b o (k b o n h)
theorem Kp.trans {pb : Addr} {H H1 H2 : Hp} (k : Kp pb H H1) (k2 : Kp pb H1 H2) : Kp pb H H2 := fun b o n h => k2 b o n (k b o n h)
def W2 (bk ws : List (List Nat)) : Prop := Szs bk ∧ (word 1 ∈ ws ↔ ¬ lenOk bk) ∧ (lenOk bk → (word 0 ∈ ws ↔ ¬ litsOk bk)) ∧ (∀ x ∈ ws, x = word 0 ∨ x = word 1) ∧ ws.length ≤ 2
def W1 (bk ws : List (List Nat)) : Prop := Szs bk ∧ lenOk bk ∧ ((ws = [] ∧ litsOk bk) ∨ (ws = [word 0] ∧ ¬ litsOk bk))
end Lw

namespace L2
open PySem PySem.Spec PyProof.Rows
def Ctx2 (c : Option Addr) (e : Addr) (h : Heap) : Prop := c = none → ∃ o vs, h.get? e = some o ∧ o.data = .fields vs ∧ vs[2]? = some .none
theorem Ctx2.keeps {c : Option Addr} {e : Addr} {h h' : Heap} (x : Ctx2 c e h) (k : ∀ o, h.get? e = some o → h'.get? e = some o) : Ctx2 c e h' := fun z =>
  let ⟨o, vs, e1, r⟩ := x z; ⟨o, vs, k o e1, r⟩
theorem FlyingW_keeps {B h h' : Heap} {l : List Env} {e : Addr} {cls a0 : Value} (x : Heap.FlyingW B l e cls a0 h) (k : ∀ b o, h.get? b = some o → h'.get? b = some o) : Heap.FlyingW B l e cls a0 h' := by
  obtain ⟨y1, y2, y3, oe, vs, T, oT, ts, z1, z2, z3, z4, z5, z6, z7, z8, z9⟩ := x
  exact ⟨fun b o q => k b o (y1 b o q), y2, y3.of_keeps fun b o q _ => ⟨o, k b o q, rfl⟩, oe, vs, T, oT, ts, k _ _ z1, z2, z3, z4, z5, z6, k _ _ z7, z8, z9⟩
section
variable {M : Model} {A : Around} {E : Value → Shared → Prop} {s : Shared} {B : Heap} {l outer : List Env} {env : Env} {L e : Addr} {cls a0 fl : Value} {c : Option Addr} {Q : Unit → Shared → Prop}
theorem flight_set {f : Option Addr} {v : Value} (hv : f.elim Value.none (fun a => rawInt a) = v) (g1 : B.StaysIn s.heap) (g2 : s.heap.FunFrames B l) (g3 : s.heap.TracedAtW B e cls a0 fl) (g4 : Ctx2 c e s.heap)
    (hQ : ∀ h', B.StaysIn h' → h'.FunFrames B l → h'.TracedAtW B e cls a0 v → s.heap.UpToSlots h' → Ctx2 c e h' → Q () { s with heap := h' }) : wpAny M A (setFlight (.ref e) f) Q E s := by
  obtain ⟨o1, us, T, o2, ws, q1, q2, q3, q4, q5, q6, q7, q8, q9⟩ := g3
  have w3 : 3 < ws.size := by
    obtain ⟨z, _⟩ := Array.getElem?_eq_some_iff.mp q9
    exact z
  have stays : ∀ b, b ≠ T → (s.heap.update T (Obj.mapFields (·.setIfInBounds 3 v))).get? b = s.heap.get? b := fun b n => Heap.get?_update_other _ _ (fun z => n z.symm)
  have notT : ∀ b o, s.heap.get? b = some o → (∀ ys, o.data ≠ .fields ys) → b ≠ T := fun b o q n z => by
    subst z
    rw [q7] at q
    cases q
    exact n ws q8
  have atT := Heap.get?_update_self (Obj.mapFields (·.setIfInBounds 3 v)) q7 (Obj.isFreed_of_fields (Obj.data_mapFields q8 (·.setIfInBounds 3 v)))
  unfold setFlight
  refine wpAny_bind (wpAny_field q1 q3 q4 ?_)
  rw [if_pos (by simp), hv]
  refine wpAny_setField q7 q8 w3 (hQ _ (fun b o q => ?_) (g2.of_keeps fun b o q n => ⟨o, ?_, rfl⟩) ⟨o1, us, T, _, _, ?_, q2, q3, q4, q5, q6, atT, Obj.data_mapFields q8 _, ?_⟩ (fun b o q n => ⟨o.slots, ?_⟩) (g4.keeps fun o q => ?_))
  · rw [stays b fun z => by rw [z, q5] at q; cases q]
    exact g1 b o q
  · rw [stays b (notT b o q n)]; exact q
  · rw [stays e (Ne.symm q6)]; exact q1
  · simp [w3]
  · rw [stays b (notT b o q n)]; exact q
  · rw [stays e (Ne.symm q6)]; exact q
theorem entry_new {oe : Obj} {vs : Array Value} {head : Value} {had : Bool} (g0 : A.frames = some (env :: outer)) (g1 : B.StaysIn s.heap) (g2 : s.heap.FunFrames B (env :: outer)) (hf : env.frame = some L)
    (he : s.heap.get? e = some oe) (hen : B.get? e = none) (hd : oe.data = .fields vs) (hz : 1 < vs.size) (h0 : vs[0]? = some a0) (g4 : Ctx2 c e s.heap)
    (hQ : ∀ h', B.StaysIn h' → h'.FunFrames B (env :: outer) → h'.TracedAtW B e oe.cls a0 (rawInt L) → s.heap.UpToSlots h' → Ctx2 c e h' → Q () { s with heap := h' }) :
    wpAny M A (do let a ← frameOf env; let pl ← entryPlaceOf L had; let b ← EntryCells.newEntry head a .none (rawInt L) .none pl; setField (.ref e) 1 b) Q E s := by
  have off : e ∉ (env :: outer).filterMap (·.frame) := fun z => by
    obtain ⟨_, o, q, n⟩ := g2.mem z
    rw [he] at q
    cases q
    exact n vs hd
  refine wpAny_bind (wpAny_frameOf_fun g0 g2 hf fun k so => ?_)
  refine wpAny_bind (wpAny_entryPlaceOf fun pl ip => ?_)
  unfold EntryCells.newEntry newFields
  refine wpAny_bind (wpAny_newObj_type ?_ (ip.sizeOk5 _ _ _ _ _))
  have ke : k.get? e = some oe := by rw [so.2.1 e off]; exact he
  have kB : B.StaysIn k := fun b o q => by
    rw [so.2.1 b fun z => by rw [(g2.mem z).1] at q; cases q]
    exact g1 b o q
  generalize htb : (⟨Value.type "traceback", none, Data.fields ([head, Value.ref L, Value.none, rawInt L, Value.none] ++ (if pl.isEmpty then List.replicate 6 Value.none else pl)).toArray, #[]⟩ : Obj) = tb
  have ne : k.objs.size ≠ e := Nat.ne_of_gt (Heap.lt_size ke)
  have pe : (k.push tb).get? e = some oe := Heap.get?_push_of_some tb ke
  have de := Obj.data_mapFields hd (·.setIfInBounds 1 (Value.ref k.objs.size))
  have ae := Heap.get?_update_self (Obj.mapFields (·.setIfInBounds 1 (Value.ref k.objs.size))) pe (Obj.isFreed_of_fields de)
  have oth : ∀ b o, b ≠ e → k.get? b = some o → ((k.push tb).update e (Obj.mapFields (·.setIfInBounds 1 (Value.ref k.objs.size)))).get? b = some o := fun b o n q => by
    rw [Heap.get?_update_other _ _ (Ne.symm n)]
    exact Heap.get?_push_of_some tb q
  have aT : ((k.push tb).update e (Obj.mapFields (·.setIfInBounds 1 (Value.ref k.objs.size)))).get? k.objs.size = some tb := by
    rw [Heap.get?_update_other _ _ (Ne.symm ne)]
    exact Heap.get?_push_size k (by rw [← htb]; rfl)
  have up : ∀ b o, s.heap.get? b = some o → (∀ ys, o.data ≠ .fields ys) → ∃ sl, ((k.push tb).update e (Obj.mapFields (·.setIfInBounds 1 (Value.ref k.objs.size)))).get? b = some { o with slots := sl } := fun b o q n => by
    obtain ⟨sl, q2⟩ := so.2.2 b o q
    refine ⟨sl, oth b _ (fun z => ?_) q2⟩
    subst z
    rw [he] at q
    cases q
    exact n vs hd
  refine wpAny_setField pe hd hz (hQ _ (fun b o q => oth b o (fun z => by rw [z, hen] at q; cases q) (kB b o q)) (g2.of_keeps fun b o q n => ?_) ?_ up fun z => ?_)
  · obtain ⟨sl, q2⟩ := up b o q n
    exact ⟨_, q2, rfl⟩
  · have hk : B.get? k.objs.size = none := kB.fresh
    refine ⟨_, _, k.objs.size, tb, _, ae, ⟨Obj.cls_mapFields _ _, ?_⟩, de, ?_, hk, ne, aT, by rw [← htb], ?_⟩
    · rw [Array.getElem?_setIfInBounds_ne (by decide)]; exact h0
    · rw [Array.getElem?_setIfInBounds_self_of_lt hz]
    · simp
  · obtain ⟨o, ys, r1, r2, r3⟩ := g4 z
    rw [he] at r1
    cases r1
    rw [hd] at r2
    cases r2
    exact ⟨_, _, ae, de, by rw [Array.getElem?_setIfInBounds_ne (by decide)]; exact r3⟩
theorem note_new {oe : Obj} {vs : Array Value} (g0 : A.frames = some (env :: outer)) (g1 : B.StaysIn s.heap) (g2 : s.heap.FunFrames B (env :: outer)) (hf : env.frame = some L)
    (he : s.heap.get? e = some oe) (hen : B.get? e = none) (hd : oe.data = .fields vs) (h1 : vs[1]? = some .none) (h0 : vs[0]? = some a0) (g4 : Ctx2 c e s.heap)
    (hQ : ∀ h', Heap.HeldW B (env :: outer) e oe.cls a0 L h' → s.heap.UpToSlots h' → Ctx2 c e h' → Q () { s with heap := h' }) : wpAny M A (noteFrame (.ref e) env) Q E s := by
  have z1 : 1 < vs.size := by
    obtain ⟨z, _⟩ := Array.getElem?_eq_some_iff.mp h1
    exact z
  unfold noteFrame
  simp only [hf]
  refine wpAny_bind (wpAny_field he hd h1 ?_)
  rw [if_neg (by decide)]
  exact entry_new g0 g1 g2 hf he hen hd z1 h0 g4 fun h' x1 x2 x3 x4 x5 => hQ h' ⟨x1, hen, x2, x3⟩ x4 x5
theorem note_on (g0 : A.frames = some (env :: outer)) (hf : env.frame = some L) (fy : Heap.FlyingW B (env :: outer) e cls a0 s.heap) (g4 : Ctx2 c e s.heap)
    (hQ : ∀ h', Heap.HeldW B (env :: outer) e cls a0 L h' → s.heap.UpToSlots h' → Ctx2 c e h' → Q () { s with heap := h' }) : wpAny M A (noteFrame (.ref e) env) Q E s := by
  obtain ⟨g1, g3, g2, o1, us, T, o2, ws, q1, ⟨q2, q2'⟩, q3, q4, q5, q6, q7, q8, q9⟩ := fy
  subst q2
  have w3 : 3 < ws.size := by
    obtain ⟨z, _⟩ := Array.getElem?_eq_some_iff.mp q9
    exact z
  have u1 : 1 < us.size := by
    obtain ⟨z, _⟩ := Array.getElem?_eq_some_iff.mp q4
    exact z
  unfold noteFrame
  simp only [hf]
  refine wpAny_bind (wpAny_field q1 q3 q4 ?_)
  rw [if_pos (by simp)]
  refine wpAny_bind (wpAny_field q7 q8 q9 ?_)
  rw [if_neg (by simp [rawInt])]
  refine wpAny_bind (wpAny_setField q7 q8 w3 ?_)
  have stays : ∀ b, b ≠ T → (s.heap.update T (Obj.mapFields (·.setIfInBounds 3 Value.none))).get? b = s.heap.get? b := fun b n => Heap.get?_update_other _ _ (fun z => n z.symm)
  have notT : ∀ b o, s.heap.get? b = some o → (∀ ys, o.data ≠ .fields ys) → b ≠ T := fun b o q n z => by
    subst z
    rw [q7] at q
    cases q
    exact n ws q8
  refine entry_new (s := { s with heap := s.heap.update T (Obj.mapFields (·.setIfInBounds 3 Value.none)) }) (vs := us) g0 (fun b o q => ?_) (g2.of_keeps fun b o q n => ⟨o, ?_, rfl⟩) hf ?_ g3 q3 u1 q2' (g4.keeps fun o q => ?_) fun h' x1 x2 x3 x4 x5 => hQ h' ⟨x1, g3, x2, x3⟩ (fun b o q n => x4 b o ?_ n) x5
  · show Heap.get? _ b = _
    rw [stays b fun z => by rw [z, q5] at q; cases q]
    exact g1 b o q
  · show Heap.get? _ b = _
    rw [stays b (notT b o q n)]; exact q
  · show Heap.get? _ e = _
    rw [stays e (Ne.symm q6)]; exact q1
  · show Heap.get? _ e = _
    rw [stays e (Ne.symm q6)]; exact q
  · show Heap.get? _ b = _
    rw [stays b (notT b o q n)]; exact q
theorem land2 {v : Value} (g3 : B.get? e = none) (hh : B.StaysIn s.heap ∧ s.heap.FunFrames B l ∧ s.heap.TracedAtW B e cls a0 v) (g4 : Ctx2 c e s.heap)
    (hQ : ∀ h', Heap.FlyingW B l e cls a0 h' → s.heap.UpToSlots h' → Ctx2 c e h' → Q () { s with heap := h' }) : wpAny M A (setFlight (.ref e) none) Q E s :=
  flight_set rfl hh.1 hh.2.1 hh.2.2 g4 fun h' x1 x2 x3 x4 x5 => hQ h' ⟨x1, g3, x2, x3⟩ x4 x5
theorem leave_new {oe : Obj} {vs : Array Value} (g0 : A.frames = some (env :: outer)) (g1 : B.StaysIn s.heap) (g2 : s.heap.FunFrames B (env :: outer)) (hf : env.frame = some L)
    (he : s.heap.get? e = some oe) (hen : B.get? e = none) (hd : oe.data = .fields vs) (h1 : vs[1]? = some .none) (h0 : vs[0]? = some a0) (g4 : Ctx2 c e s.heap)
    (hQ : ∀ h', Heap.FlyingW B outer e oe.cls a0 h' → s.heap.UpToSlots h' → Ctx2 c e h' → Q () { s with heap := h' }) : wpAny M A (leaving env (.ref e)) Q E s := by
  unfold leaving
  refine wpAny_bind (note_new g0 g1 g2 hf he hen hd h1 h0 g4 fun h' x1 x2 x3 => ?_)
  refine land2 (s := { s with heap := h' }) x1.2.1 ⟨x1.1, x1.2.2.1, x1.2.2.2⟩ x3 fun h2 y1 y2 y3 => hQ h2 ⟨y1.1, y1.2.1, y1.2.2.1.2.2, y1.2.2.2⟩ (x2.trans y2) y3
theorem leave_on (g0 : A.frames = some (env :: outer)) (hf : env.frame = some L) (fy : Heap.FlyingW B (env :: outer) e cls a0 s.heap) (g4 : Ctx2 c e s.heap)
    (hQ : ∀ h', Heap.FlyingW B outer e cls a0 h' → s.heap.UpToSlots h' → Ctx2 c e h' → Q () { s with heap := h' }) : wpAny M A (leaving env (.ref e)) Q E s := by
  unfold leaving
  refine wpAny_bind (note_on g0 hf fy g4 fun h' x1 x2 x3 => ?_)
  refine land2 (s := { s with heap := h' }) x1.2.1 ⟨x1.1, x1.2.2.1, x1.2.2.2⟩ x3 fun h2 y1 y2 y3 => hQ h2 ⟨y1.1, y1.2.1, y1.2.2.1.2.2, y1.2.2.2⟩ (x2.trans y2) y3
end
end L2

namespace L2
open PySem PySem.Spec PyProof.Rows
def CXC (P : Program) (w : World) : CXT := fun outer H s E e s' => ∃ (ea : Addr) (cls a0 : Value) (B : Heap) (H' : Hp) (tg : Option Addr), e = .ref ea ∧ s'.os = s.os ∧ AllBare s'.gens ∧ Un (frs outer) [] H H' s.heap s'.heap ∧ HOk P w H' s'.heap ∧
  Heap.FlyingW B outer ea cls a0 s'.heap ∧ (∀ b o, s'.heap.get? b = some o → (H' b ≠ none ∨ s.heap.get? b ≠ none) → b ∉ frs outer → B.get? b = some o) ∧ s.heap.get? ea = none ∧ Ctx2 tg ea s'.heap ∧ E cls tg H'
structure Cx.LetsC (X : Cx) (E : XK) : Prop where
  xe : X.xe = fun e s' => wpAny (model X.prog X.w) X.A (leaving X.env e) (fun _ s'' => CXC X.prog X.w X.outer X.H₀ X.s₀ E e s'') (fun e' s'' => CXC X.prog X.w X.outer X.H₀ X.s₀ E e' s'') s'
  stack : X.stack = X.env :: X.outer
  frame : X.env.frame = some X.env.locals
  ex : X.ex = []
  calm : X.calm = true
section
variable {X : Cx} {E : XK} {pins : List (Addr × Obj)} {σ : St} {H H' : Hp} {s s' : Shared} {B : Heap} {ea : Addr} {cls a0 : Value}
theorem Cx.LetsC.fs (L : X.LetsC E) : frs X.stack = X.env.locals :: frs X.outer := by
  rw [L.stack]
  show List.filterMap (·.frame) (X.env :: X.outer) = _
  rw [List.filterMap_cons, L.frame] <;> rfl
theorem Cx.LetsC.passes (L : X.LetsC E) : PassesOwn (model X.prog X.w) X.A X.env X.xe := by
  rw [L.xe]
  exact PassesOwn.leaving
theorem letsC_done (L : X.LetsC E) (I : Inv X pins σ H' s') (hfl : Heap.FlyingW B X.outer ea cls a0 s.heap) (hup : s'.heap.UpToSlots s.heap)
    (cov : ∀ b o, s'.heap.get? b = some o → (H' b ≠ none ∨ X.s₀.heap.get? b ≠ none) → b ∉ frs X.stack → B.get? b = some o) (hos : s.os = s'.os) (hg : AllBare s.gens) (hea : X.s₀.heap.get? ea = none) {tg : Option Addr} (ctx : Ctx2 tg ea s.heap) (q : E cls tg H') :
    CXC X.prog X.w X.outer X.H₀ X.s₀ E (.ref ea) s := by
  have below : ∀ b o, X.s₀.heap.get? b = some o → b ≠ X.env.locals := fun b o e z => absurd (Nat.lt_of_lt_of_le (Heap.lt_size e) I.ok.above) (by rw [z]; exact Nat.lt_irrefl _)
  have inB : ∀ b o, s'.heap.get? b = some o → (H' b ≠ none ∨ X.s₀.heap.get? b ≠ none) → b ∉ frs X.stack → s.heap.get? b = some o := fun b o e h n => hfl.1 b o (cov b o e h n)
  have notS : ∀ b, b ≠ X.env.locals → b ∉ X.fs → b ∉ frs X.stack := fun b h1 h2 z => (List.mem_cons.mp (I.stkSub b z)).elim h1 h2
  have base := I.base
  rw [L.ex] at base
  refine ⟨ea, cls, a0, B, H', tg, rfl, hos.trans I.os, hg, ⟨fun b o e n hb hx => ?_, fun b o e n hb hx => ?_, base.free, fun b o e hx => ?_, base.tups, base.frzs, base.tbls⟩, fun b o e => ?_, hfl, fun b o e h n => ?_, hea, ctx, q⟩
  · exact inB b o (base.keep b o e n hb hx) (.inr (by rw [e]; simp)) (notS b (below b o e) hb)
  · obtain ⟨sl, e1⟩ := base.slot b o e n hb hx
    obtain ⟨_, o', e2, nf⟩ := I.funs.mem hb
    rw [e1] at e2
    cases e2
    obtain ⟨sl', e3⟩ := hup b _ e1 nf
    exact ⟨sl', e3⟩
  · obtain ⟨o', e1⟩ := base.there b o e hx
    by_cases hb : b ∈ X.fs
    · obtain ⟨_, o2, e2, nf⟩ := I.funs.mem hb
      obtain ⟨sl', e3⟩ := hup b _ e2 nf
      exact ⟨_, e3⟩
    · exact ⟨o', inB b o' e1 (.inr (by rw [e]; simp)) (notS b (below b o e) hb)⟩
  · have free : ∀ c u, H' c = some u → c ∉ frs X.stack := fun c u e z => by rw [I.stkFree c z] at e; cases e
    refine (I.hok b o e).stay (fun c u hc q => inB c u q (.inl ?_) ?_) (fun _ q => q) fun _ _ q => q
    · rcases hc with z | z
      · rw [z, e]; simp
      · rw [z]; simp
    · rcases hc with z | z
      · rw [z]; exact free b o e
      · exact free c _ z
  · have old : ∃ o', s'.heap.get? b = some o' := by
      rcases h with h | h
      · cases eh : H' b with
        | none => exact absurd eh h
        | some u => exact (I.hok b u eh).has
      · cases eh : X.s₀.heap.get? b with
        | none => exact absurd eh h
        | some u => exact base.there b u eh (by simp)
    obtain ⟨o', e1⟩ := old
    have nl : b ≠ X.env.locals := by
      rcases h with h | h
      · intro z; rw [z] at h; exact h I.free
      · cases eh : X.s₀.heap.get? b with
        | none => exact absurd eh h
        | some u => exact below b u eh
    have e2 := cov b o' e1 h (notS b nl n)
    have e3 := hfl.1 b o' e2
    rw [e] at e3
    rw [e3]
    exact e2
theorem Cx.LetsC.pass (L : X.LetsC E) : Passes (CXC X.prog X.w) X E := by
  intro pins σ H s e s' I h
  obtain ⟨ea, cls, a0, B, H', tg, rfl, hos, hg, un, hok, hfl, cov, hea, ctx, q⟩ := h
  have I' : Inv X pins σ H' s' := I.call' (ch := []) hos un hok hg fun b z => absurd z (by simp)
  rw [L.xe]
  show wpAny (model X.prog X.w) X.A (leaving X.env (.ref ea)) _ _ s'
  have fr := I.ok.frames
  rw [L.stack] at fr hfl
  refine leave_on fr L.frame hfl ctx fun h' hfl' hup ctx' => ?_
  have s0 : ∀ b, X.s₀.heap.get? b ≠ none → s.heap.get? b ≠ none := fun b hb => by
    cases eh : X.s₀.heap.get? b with
    | none => exact absurd eh hb
    | some u =>
      have base := I.base
      rw [L.ex] at base
      obtain ⟨o', e⟩ := base.there b u eh (by simp)
      rw [e]; simp
  refine letsC_done (s := { s' with heap := h' }) L I' hfl' hup (fun b o e hb n => cov b o e (hb.imp id (s0 b)) n) rfl hg ?_ ctx' q
  cases eh : X.s₀.heap.get? ea with
  | none => rfl
  | some u => exact absurd hea (s0 ea (by rw [eh]; simp))
theorem psC_raise {x t : Str} {C : Addr} {np cpos pos p : Pos} {j : Nat} (L : X.LetsC E) (hg : Gl X x) (hm : X.mg x = some (.ref C))
    (hx : PySem.W.excIn X.K C [.type "ValueError", .type "Exception", .type "BaseException", .type "object"] "ValueError.__new__" = true) (hd : (x == ("__debug__" : Str)) = false := by decide)
    (he : starEach [Expr.Constant (.str t) j p] X.env = [(false, eval (.Constant (.str t) j p) X.env)] := by rfl) :
    PS X (.Raise (some (.Call (.Name x np) [.Constant (.str t) j p] [] cpos)) none pos) (tRaise C E) := by
  intro pins s σ H D I h
  obtain ⟨m, N, nm, qn, bs, hdt, sn, sub, ab, col, dd, k0, k1, k2, k3, k5, mN, hC, hN, hni, T⟩ := exc_obj I.kIn hx
  refine wpAny_Raise_call_subT (k5 := k5) (k3 := k3) (k2 := k2) (k1 := k1) (k0 := k0) (dd := dd) (col := col) (ab := ab) (sub := sub) (sn := sn) (hdct := hdt) (bs := bs) (q := qn) (nm := nm) (C := C) (N := N) (bm := m) PySem.F.excBase_ValueError (mN := mN) (T.hasType PySem.F.excBase_ValueError.hasBase) (I.ok.hd L.calm) (by rw [he]; rfl) hni (ld_glob I hg hm ⟨rfl, ?_⟩ hd)
  rw [he]
  refine Calls.evalArgs_plain (Calls.spliced_cons (Calls.Constant_str (k := j) (pos := p) (Calls.spliced_nil ⟨rfl, ?_, hC, hN, T, fun h' e made => ?_⟩)))
  · show 1 ≤ sizeLine; decide
  rw [L.xe]
  show wpAny (model X.prog X.w) X.A (leaving X.env (.ref e)) _ _ { s with heap := h', toks := s.toks + 1 }
  have fr := I.ok.frames
  have fn := I.stack
  rw [L.stack] at fr fn
  have fs := L.fs
  rw [L.stack] at fs
  -- all but the frames
  have hid : ∀ b o, b ∉ frs X.stack → s.heap.get? b = some o → (PySem.W.hideAll s.heap (frs X.stack)).get? b = some o := fun b o n e => PySem.W.hideAll_get _ e n
  obtain ⟨tt, made1, made2, made3⟩ := made.there
  have hb0 : (PySem.W.hideAll s.heap (frs X.stack)).StaysIn s.heap := fun b o q => PySem.W.of_hideAll _ q
  have hB0 : (PySem.W.hideAll s.heap (frs X.stack)).get? e = none := by
    cases q : (PySem.W.hideAll s.heap (frs X.stack)).get? e with
    | none => rfl
    | some u =>
      have := hb0 e u q
      rw [made.new] at this
      cases this
  refine leave_new (c := none) (s := { s with heap := h', toks := s.toks + 1 }) (B := PySem.W.hideAll s.heap (frs X.stack)) (a0 := .ref tt) fr (fun b o q => made.keeps b o (hb0 b o q)) ?_ L.frame made1 hB0 rfl rfl rfl (fun _ => ⟨_, _, made1, rfl, rfl⟩) fun h2 hfl hup ctx => ?_
  · exact Heap.FunFrames.of_keeps (fun b o q _ => ⟨o, made.keeps b o q, rfl⟩) <| PySem.W.funFrames_hide fn fun env he a ha => List.mem_filterMap.mpr ⟨env, by rw [L.stack]; exact he, ha⟩
  have I2 : Inv X pins σ H { s with heap := h', toks := s.toks + 1 } := I.kept made.keeps
  refine letsC_done (s := { s with heap := h2, toks := s.toks + 1 }) L I2 hfl hup (fun b o q hb n => ?_) rfl I.bare ?_ ctx h
  · have old : ∃ o', s.heap.get? b = some o' := by
      rcases hb with hb | hb
      · cases eh : H b with
        | none => exact absurd eh hb
        | some u => exact (I.hok b u eh).has
      · cases eh : X.s₀.heap.get? b with
        | none => exact absurd eh hb
        | some u =>
          have base := I.base
          rw [L.ex] at base
          exact base.there b u eh (by simp)
    obtain ⟨o', e1⟩ := old
    have e2 : h'.get? b = some o' := made.keeps b o' e1
    have e3 : o' = o := Option.some.inj (e2.symm.trans q)
    rw [← e3]
    exact hid b o' n e1
  · cases eh : X.s₀.heap.get? e with
    | none => rfl
    | some u =>
      have base := I.base
      rw [L.ex] at base
      obtain ⟨o', e1⟩ := base.there e u eh (by simp)
      have := made.new
      rw [e1] at this
      cases this
end
section
variable {X : Cx} {pins : List (Addr × Obj)} {σ : St} {H : Hp} {s : Shared}
def tTryC (K : PySem.W.Frag) (C0 : Addr) (n i : Nat) (tb : XK → TS) (th : TS) : TS := fun D σ H => ∃ E : XK, tb E D σ H ∧ ∀ cls tg H1, E cls tg H1 → PySem.W.exmOne K cls (.ref C0) = some true ∧
  ∀ ea, H1 ea = none → th { nx := fun _ _ => False, rt := D.rt } ((List.replicate n none).set i (some (.ref ea))) (upd H1 ea (excO ea cls))
theorem psC_try {body suite : List Stmt} {b₀ : Stmt} {x n : Str} {np hpos pos : Pos} {C0 : Addr} {i : Nat} {tb : XK → TS} {th : TS}
    (hst : X.stack = X.env :: X.outer) (hfr : X.env.frame = some X.env.locals) (hex : X.ex = []) (hN : X.N.Nodup) (hi : X.N[i]? = some n) (hn : X.env.scope.names.lookup n = some .local) (hg : Gl X x) (hm : X.mg x = some (.ref C0))
    (hb : ∀ (E' : Value → Shared → Prop) (pn : List (Addr × Obj)) (E : XK), Passes (CXC X.prog X.w) (X.tryCx E' pn) E → PSs (X.tryCx E' pn) body (tb E))
    (hh : ∀ m : Option Value, PSs (X.handCx m) (b₀ :: suite) th) (hd : (x == ("__debug__" : Str)) = false := by decide) :
    PS X (.Try body [.ExceptHandler (some (.Name x np)) (some n) (b₀ :: suite) hpos] [] [] pos) (tTryC X.K C0 X.N.length i tb th) := by
  intro pins s σ H D I h
  obtain ⟨E, hbody, hhand⟩ := h
  have pass : Passes (CXC X.prog X.w) (X.tryCx (fun e s₁ => wpAny (model X.prog X.w) X.A (noteFrame e X.env) (fun _ s₂ => wpAny (model X.prog X.w) X.A (setFlight e none) (fun _ s₃ =>
      wpAny (model X.prog X.w) X.A (handleBy e X.env [.ExceptHandler (some (.Name x np)) (some n) (b₀ :: suite) hpos]) (SP X pins D) X.xe s₃) X.xe s₂) X.xe s₁) (X.pn ++ pins)) E := by
    intro pins2 σ2 H2 s2 e s1 I2 hx
    obtain ⟨ea, cls, a0, B, H', tg, rfl, hos, hg', un, hok, hfl, cov, hea, ctx, q⟩ := hx
    obtain ⟨hxm, hsuite⟩ := hhand cls tg H' q
    have fr : X.A.frames = some (X.env :: X.outer) := by rw [← hst]; exact I.ok.frames
    have hfl' : Heap.FlyingW B (X.env :: X.outer) ea cls a0 s1.heap := by rw [← hst]; exact hfl
    show wpAny (model X.prog X.w) X.A (noteFrame (.ref ea) X.env) _ _ s1
    refine wpAny_looks_onW fr hfr hfl' fun h2 held hup2 => ?_
    refine wpAny_landsW held fun h3 hfl3 hup3 => ?_
    have hup13 := hup2.trans hup3
    have at3 : Inv X pins σ2 H' { s1 with heap := h3 } := (I2.flown (h' := h3) hos un hok hg' cov hfl3.1 hup13).ofTry
    refine wpAny_handleBy_cons (codeAny_handlers_test ?_) (by intro z; cases z)
    refine ld_glob (X := X.handCx (some (.ref ea))) (at3.toHand _) hg hm ?_ hd
    obtain ⟨ob, hob, hoc⟩ := hfl3.there
    have LT : PySem.W.Looks (model X.prog X.w) h3 (typeOf (.ref ea)) cls := hoc ▸ (PySem.W.Looks.ld hob).andThen .now
    refine (PySem.W.exm_one at3.kIn LT hxm).at ?_
    refine codeAny_handlers_suite_as ?_
    refine lands_againW (s := { s1 with heap := h3 }) hfl3 fun h4 hfl4 hup4 => ?_
    have at4 : Inv X pins σ2 H' { s1 with heap := h4 } := (I2.flown (h' := h4) hos un hok hg' cov hfl4.1 (hup13.trans hup4)).ofTry
    have gone : ∀ b o, s2.heap.get? b = some o → b ≠ ea := fun b o e z => by rw [z, hea] at e; cases e
    have hn' : H' ea = none := by
      cases eh : H' ea with
      | none => rfl
      | some u =>
        obtain ⟨o1, e1⟩ := (hok ea u eh).has
        have := cov ea o1 e1 (.inl (by rw [eh]; simp)) (fun z => by
          obtain ⟨_, o2, e2, _⟩ := I2.stack.mem z
          exact gone ea o2 e2 rfl)
        rw [hfl.2.1] at this
        cases this
    have h0 : X.s₀.heap.get? ea = none := by
      cases eh : X.s₀.heap.get? ea with
      | none => rfl
      | some u =>
        obtain ⟨o1, e1⟩ := I2.base.there ea u eh (by show ea ∉ X.ex; rw [hex]; simp)
        exact absurd rfl (gone ea o1 e1)
    obtain ⟨oe, vs, hoe, hoec, hoed, _⟩ := hfl4.first
    have tr : Inv X pins σ2 (upd H' ea (excO ea cls)) { s1 with heap := h4 } := by
      refine at4.track hn' h0 ?_ (fun y c e => ?_) (fun p hp => ?_) ⟨⟨oe, hoe, hoec, ?_⟩, ⟨oe, hoe⟩, fun h1 h2 ⟨o, e, r⟩ k => ⟨o, k o e, r⟩⟩
      · obtain ⟨m0, ⟨o0, _, _, eL, _⟩, _⟩ := I2.loc
        exact Ne.symm (gone _ o0 eL)
      · obtain ⟨v, o, ho, _⟩ := I2.cell y c e
        exact gone c o ho
      · exact gone p.1 p.2 (I2.pin p (List.mem_append_left _ hp)).1
      · unfold PySem.W.notCls
        rw [hoed]
    refine store_ok (X := X.handCx (some (.ref ea))) (tr.toHand (some (.ref ea))) hN hi (.inl hn) (v := .ref ea) rfl (fun s5 I5 => ?_) (.inr hn)
    have il : i < X.N.length := by
      obtain ⟨z, _⟩ := List.getElem?_eq_some_iff.mp hi
      exact z
    have l2 : σ2.length = X.N.length := I2.len
    have I5w : Inv (X.handCx (some (.ref ea))) pins ((List.replicate X.N.length none).set i (some (.ref ea))) (upd H' ea (excO ea cls)) s5 := by
      refine I5.weak (by rw [List.length_set, List.length_set, List.length_replicate, l2]) fun j v e => ?_
      by_cases hj : j = i
      · subst hj
        rw [List.getElem?_set_self (by rw [List.length_replicate]; exact il)] at e
        rw [List.getElem?_set_self (by rw [l2]; exact il)]
        exact e
      · rw [List.getElem?_set_ne (Ne.symm hj), List.getElem?_replicate] at e
        split at e <;> cases e
    refine wpAny_mono (hh (some (.ref ea)) pins s5 _ _ _ I5w (hsuite ea hn')) (fun f s6 q6 => ?_) (fun _ _ z => False.elim z)
    cases f with
    | next => obtain ⟨_, _, _, z⟩ := q6; exact False.elim z
    | brk => obtain ⟨_, _, _, z⟩ := q6; exact False.elim z
    | cont => obtain ⟨_, _, _, z⟩ := q6; exact False.elim z
    | ret u =>
      obtain ⟨v, σ6, H6, J6, r, q⟩ := q6
      have J : Inv X pins σ6 H6 s6 := Inv.ofHand I J6
      obtain ⟨m6, n6, _⟩ := J.loc
      exact wpAny_nameGoes (M := model X.prog X.w) (A := X.A) hn n6 (by rw [J.ok.kind]; rfl) fun h' m' z1 z2 => ⟨v, _, H6, J.unnamed z1 z2, r, q⟩
  refine wpAny_Try_except ?_
  refine wpAny_mono (hb _ _ E pass [] s σ H D (I.toTry _) hbody) (fun f s1 q => ?_) (fun e s1 z => z)
  · cases f with
    | next =>
      obtain ⟨σ', H', I', q⟩ := q
      exact wpAny_execs_nil ⟨σ', H', I'.ofTry, q⟩
    | ret v =>
      obtain ⟨v', σ', H', I', r, q⟩ := q
      exact ⟨v', σ', H', I'.ofTry, r, q⟩
    | brk =>
      obtain ⟨σ', H', I', q⟩ := q
      exact ⟨σ', H', I'.ofTry, q⟩
    | cont =>
      obtain ⟨σ', H', I', q⟩ := q
      exact ⟨σ', H', I'.ofTry, q⟩
end
section
variable {P : Program} {w : World} {K : PySem.W.Frag} {mg : Str → Option Value} {base : Heap}
theorem letsC_cxOf {N : List Str} {qual : Str} {scope : Scope} {f : Addr} {cd : Value} {A : Around} {outer : List Env} {s : Shared} {H : Hp} {E : XK} : (cxOf (CXC P w) P w K mg base N qual scope f cd A outer s H E).LetsC E := ⟨rfl, rfl, rfl, rfl, rfl⟩
theorem Fun.okC {x qual : Str} {st : Stmt} {f : Addr} {fd : FuncData} {N ps : List Str} {k : Nat} {sp : Sp} (F : Fun K x qual st f fd) (S : FnScope N ps (defScope st)) (len : ∀ vs H Q E, sp vs H Q E → vs.length = ps.length)
    (hbody : ∀ (cdv : Value) (A : Around) (outer : List Env) (s : Shared) (H : Hp) (vs : List V) (Q : VK) (E : XK), Room k (A.deeper (envOfC qual (defScope st) s.heap.objs.size f cdv)) → (cxOf (CXC P w) P w K mg base N qual (defScope st) f cdv A outer s H E).LetsC E → sp vs H Q E →
      ∃ t, PSs (cxOf (CXC P w) P w K mg base N qual (defScope st) f cdv A outer s H E) (defBody st) t ∧ t { nx := fun _ H' => Q .non H', rt := Q } (start N vs) H) : FnOk P w K mg base (CXC P w) (k + 1) f fd ps sp := by
  obtain ⟨oc, od, kV, doc, pm, an, cdv, ct, osl, rfl, lk, hcd⟩ := F.ex
  exact fn_of lk hcd S len fun A outer s H vs Q E hr hsp => hbody cdv A outer s H vs Q E hr letsC_cxOf hsp
structure DefC (P : Program) (w : World) (K : PySem.W.Frag) (mg : Str → Option Value) (base : Heap) (k : Nat) (x : Str) (ps : List Str) (sp : Sp) : Prop where
  ex : ∃ (f : Addr) (fd : FuncData), FnOk P w K mg base (CXC P w) k f fd ps sp ∧ Binds K fd ps [] ∧ PySem.W.keepIn K (.ref f) = true ∧ mg x = some (.ref f)
theorem Src.isC {k : Nat} {x : Str} {st : Stmt} {ps : List Str} {sp : Sp} (S : Src K mg x st)
    (hb : ∀ (kV doc pm : Value) (an : Option Addr) (cdv ct : Value) (us : List Value), us.length = ps.length → bindArgs (PySem.W.fnOf x x (defArgs st) (defBody st) (defScope st) .none kV doc pm an cdv ct) ⟨us, []⟩ = pure (ps.zip us))
    (ok : ∀ (f : Addr) (fd : FuncData), Fun K x x st f fd → FnOk P w K mg base (CXC P w) k f fd ps sp) : DefC P w K mg base k x ps sp := by
  obtain ⟨f, fd, F, hm⟩ := S.ex
  exact ⟨f, fd, ok f fd F, F.binds hb, F.kp, hm⟩
end
section
variable {X : Cx} {x : Str} {p pos : Pos} {e : Expr} {es : List Expr} {t : TA}
theorem pe_callC {j k : Nat} {ps : List Str} {sp : Sp} {E : XK} (D : DefC X.prog X.w X.K X.mg X.base j x ps sp) (hp : Passes (CXC X.prog X.w) X E) (hr : Room k X.A) (hg : Gl X x) (ha : PA X (e :: es) t) (hj : j ≤ k := by decide) (hdb : (x == ("__debug__" : Str)) = false := by decide)
    (he : starEach (e :: es) X.env = (false, eval e X.env) :: starEach es X.env := by rfl) (hpl : (backTo pos (starEach es X.env)).any (·.1) = false := by rfl) :
    PE X (.Call (.Name x p) (e :: es) [] pos) (tCall sp [] E t) := by
  obtain ⟨f, fd, F, hb, hk, hm⟩ := D.ex
  exact pe_call F (hr.mono hj) hg hm hk hb .nil hp ha hdb he hpl
end
end L2

namespace L2
open PySem PySem.Spec PyProof.Rows
theorem entry_unchain : entryFor table "proto.unchain" = some Builtin.«proto.unchain» := entryFor_of_fast (by kernel_rfl)
section
variable {prog : Program} {w : World} {A : Around} {E : Value → Shared → Prop} {s : Shared} {env : Env}
variable {nm q : Str} {C N hd : Addr} {bs bm : List Value} {hdct : Bool} {sn : List Str} {sub : List Value} {ab : Bool} {col : Option Bool} {dd : Option Addr} {k0 k1 k2 k3 k5 : Option Value} {newId : String}
theorem raise_new_in {e : Addr} {oe : Obj} {vs : Array Value} {α : Type} {Q : α → Shared → Prop} (hh : A.handled = some (.ref hd)) (hne : hd ≠ e) (hc : ∃ o ws, s.heap.get? hd = some o ∧ o.data = .fields ws ∧ ws[2]? = some .none)
    (he : s.heap.get? e = some oe) (hd1 : oe.data = .fields vs) (hz : 2 < vs.size) (h : E (.ref e) { s with heap := s.heap.update e (Obj.mapFields (·.setIfInBounds 2 (.ref hd))) }) : wpAny (model prog w) A (raiseNew (.ref e) : Sem α) Q E s := by
  obtain ⟨o, ws, e1, e2, e3⟩ := hc
  unfold raiseNew
  refine wpAny_bind (wpAny_handled ?_)
  rw [hh]
  dsimp only
  rw [if_pos (by simp [hne])]
  refine wpAny_bind (wpAny_holding (wpAny_runValue (codeAny_builtin entry_unchain ?_)))
  unfold Builtin.«proto.unchain»
  dsimp only
  refine wpAny_bind (wpAny_field e1 e2 e3 ?_)
  rw [if_pos (by rfl)]
  refine wpAny_bind (wpAny_pure (wpAny_pure ?_))
  refine wpAny_bind ?_
  show wpAny _ _ (setField (.ref e) 2 (.ref hd)) _ _ s
  refine wpAny_setField he hd1 hz ?_
  exact wpAny_throw h
theorem raise_from {x : Sem Value} {pos q2 : Pos} {kk : Nat} {Q : Flow → Shared → Prop} (hbase : bm.contains (.type "BaseException") = true) (hh : A.handled = some (.ref hd))
    (h : wpAny (model prog w) A x (fun v s₁ => ∃ e t, v = .ref e ∧ hd ≠ e ∧ s₁.heap.get? C = some (excClassObj nm q C N bs bm hdct sn sub ab col dd k0 k1 k2 k3 k5 newId) ∧
      s₁.heap.get? e = some { cls := .ref C, data := .fields #[.ref t, .none, .none, .none, .bool false, .none] } ∧ (∃ o ws, s₁.heap.get? hd = some o ∧ o.data = .fields ws ∧ ws[2]? = some .none) ∧
      ∀ h', (∀ b o, b ≠ e → s₁.heap.get? b = some o → h'.get? b = some o) → h'.get? e = some { cls := .ref C, data := .fields #[.ref t, .none, .ref hd, .none, .bool true, .none] } → E (.ref e) { s₁ with heap := h' }) E s) :
    wpAny (model prog w) A (raiseStmt env (some x) (some (do let v ← eval (.Constant .none kk q2) env; standAt pos; pure v))) Q E s := by
  have hcB : (Value.ref C :: bm).contains (.type "BaseException") = true := by rw [List.contains_cons, hbase, Bool.or_true]
  unfold raiseStmt
  refine wpAny_bind (wpAny_mono h (fun v s₁ h₁ => ?_) fun _ _ x => x)
  obtain ⟨e, t, rfl, hne, hC, he, hc, hE⟩ := h₁
  obtain ⟨hp, g, d, tk, os⟩ := s₁
  refine wpAny_bind (wpAny_holding (wpAny_bind (wpAny_Constant_none (wpAny_bind (wpAny_standAt (wpAny_pure (wpAny_bind (wpAny_pure ?_))))))))
  dsimp only
  refine wpAny_bind (wpAny_holding ?_)
  unfold excFromValue
  repeat (first | with_reducible refine wpAny_loadPart_at he ?_ | with_reducible refine wpAny_loadPart_at hC ?_ | (with_reducible refine wpAny_isSubtype_exc hC ?_; rw [hcB]) | wp_step)
  have nC : e ≠ C := fun z => by
    rw [z, hC] at he
    cases he
  have he3 := Heap.get?_update_self (Obj.mapFields (·.setIfInBounds 3 Value.none)) he rfl
  have he4 := Heap.get?_update_self (Obj.mapFields (·.setIfInBounds 4 (.bool true))) he3 rfl
  have hC4 : ((hp.update e (Obj.mapFields (·.setIfInBounds 3 Value.none))).update e (Obj.mapFields (·.setIfInBounds 4 (.bool true)))).get? C = some (excClassObj nm q C N bs bm hdct sn sub ab col dd k0 k1 k2 k3 k5 newId) := by
    rw [Heap.get?_update_other _ _ nC, Heap.get?_update_other _ _ nC]
    exact hC
  refine wpAny_loadPart_at hC4 (wpAny_pure ?_)
  rw [if_pos (by rfl)]
  refine wpAny_pure ?_
  refine wpAny_bind ?_
  unfold setFlight
  refine wpAny_bind (wpAny_field (s := ⟨_, g, d, tk, os⟩) he4 rfl (x := .none) rfl ?_)
  rw [if_neg (by decide)]
  refine wpAny_pure ?_
  obtain ⟨o, ws, c1, c2, c3⟩ := hc
  refine raise_new_in (s := ⟨_, g, d, tk, os⟩) hh hne ⟨o, ws, ?_, c2, c3⟩ he4 rfl (by simp) ?_
  · show Heap.get? _ hd = _
    rw [Heap.get?_update_other _ _ (Ne.symm hne), Heap.get?_update_other _ _ (Ne.symm hne)]
    exact c1
  · refine hE _ (fun b o n z => ?_) ?_
    · rw [Heap.get?_update_other _ _ (Ne.symm n), Heap.get?_update_other _ _ (Ne.symm n), Heap.get?_update_other _ _ (Ne.symm n)]
      exact z
    · rw [Heap.get?_update_self _ he4 rfl]
      rfl
end
end L2

namespace L2
open PySem PySem.Spec PyProof.Rows
section
variable {X : Cx} {E : XK}
def tTryR (K : PySem.W.Frag) (C1 C2 C3 : Addr) (E : XK) (tb : XK → TS) : TS := fun D σ H => ∃ E1 : XK, tb E1 D σ H ∧ ∀ cls tg H1, E1 cls tg H1 → tg = none ∧ PySem.W.exmAny K cls [.ref C1, .ref C2] = some true ∧ E (.ref C3) (some 0) H1
theorem psC_tryR {body : List Stmt} {x1 x2 x3 tx : Str} {p1 p2 np tpos cpos rpos cp hpos pos p : Pos} {kk j kn : Nat} {C1 C2 C3 : Addr} {tb : XK → TS}
    (L : X.LetsC E) (hg1 : Gl X x1) (hm1 : X.mg x1 = some (.ref C1)) (hg2 : Gl X x2) (hm2 : X.mg x2 = some (.ref C2)) (hg3 : Gl X x3) (hm3 : X.mg x3 = some (.ref C3))
    (hx : PySem.W.excIn X.K C3 [.type "ValueError", .type "Exception", .type "BaseException", .type "object"] "ValueError.__new__" = true)
    (hb : ∀ (E' : Value → Shared → Prop) (pn : List (Addr × Obj)) (E1 : XK), Passes (CXC X.prog X.w) (X.tryCx E' pn) E1 → PSs (X.tryCx E' pn) body (tb E1))
    (hd1 : (x1 == ("__debug__" : Str)) = false := by decide) (hd2 : (x2 == ("__debug__" : Str)) = false := by decide) (hd3 : (x3 == ("__debug__" : Str)) = false := by decide)
    (he : starEach [Expr.Constant (.str tx) j p] X.env = [(false, eval (.Constant (.str tx) j p) X.env)] := by rfl) :
    PS X (.Try body [.ExceptHandler (some (.Tuple [.Name x1 p1, .Name x2 p2] kk tpos)) none [.Raise (some (.Call (.Name x3 np) [.Constant (.str tx) j p] [] cpos)) (some (.Constant .none kn cp)) rpos] hpos] [] [] pos) (tTryR X.K C1 C2 C3 E tb) := by
  intro pins s σ H D I h
  obtain ⟨E1, hbody, hhand⟩ := h
  have pass : Passes (CXC X.prog X.w) (X.tryCx (fun e s₁ => wpAny (model X.prog X.w) X.A (noteFrame e X.env) (fun _ s₂ => wpAny (model X.prog X.w) X.A (setFlight e none) (fun _ s₃ =>
      wpAny (model X.prog X.w) X.A (handleBy e X.env [.ExceptHandler (some (.Tuple [.Name x1 p1, .Name x2 p2] kk tpos)) none [.Raise (some (.Call (.Name x3 np) [.Constant (.str tx) j p] [] cpos)) (some (.Constant .none kn cp)) rpos] hpos]) (SP X pins D) X.xe s₃) X.xe s₂) X.xe s₁) (X.pn ++ pins)) E1 := by
    intro pins2 σ2 H2 s2 e s1 I2 hx1
    obtain ⟨ea, cls, a0, B, H', tg, rfl, hos, hg', un, hok, hfl, cov, hea, ctx, q⟩ := hx1
    obtain ⟨rfl, hxm, hE⟩ := hhand cls tg H' q
    have fr : X.A.frames = some (X.env :: X.outer) := by rw [← L.stack]; exact I.ok.frames
    have hfl' : Heap.FlyingW B (X.env :: X.outer) ea cls a0 s1.heap := by rw [← L.stack]; exact hfl
    have I1 : Inv X pins σ2 H' s1 := (I2.ofTry).call' (ch := []) hos un hok hg' fun b z => absurd z (by simp)
    show wpAny (model X.prog X.w) X.A (noteFrame (.ref ea) X.env) _ _ s1
    refine note_on fr L.frame hfl' ctx fun h2 held up2 ctx2 => ?_
    refine land2 (s := { s1 with heap := h2 }) held.2.1 ⟨held.1, held.2.2.1, held.2.2.2⟩ ctx2 fun h3 fl3 up3 ctx3 => ?_
    have at3 : Inv X pins σ2 H' { s1 with heap := h3 } := (I2.flown (h' := h3) hos un hok hg' cov fl3.1 (up2.trans up3)).ofTry
    refine wpAny_handleBy_cons (codeAny_handlers_test ?_) (by intro z; cases z)
    refine wpAny_Tuple (wpAny_items_cons (ld_glob (X := X.handCx (some (.ref ea))) (at3.toHand _) hg1 hm1 (wpAny_items_cons (ld_glob (X := X.handCx (some (.ref ea))) (at3.toHand _) hg2 hm2 (wpAny_items_nil ⟨by show 2 ≤ sizeLine; decide, ?_⟩) hd2)) hd1))
    generalize htp : (⟨Value.type "tuple", none, Data.seq [Value.ref C1, Value.ref C2].toArray, #[]⟩ : Obj) = tp
    have k4 : ∀ b o, h3.get? b = some o → (h3.push tp).get? b = some o := fun b o z => Heap.get?_push_of_some tp z
    have fl4 := FlyingW_keeps fl3 k4
    have ctx4 : Ctx2 none ea (h3.push tp) := ctx3.keeps fun o z => k4 ea o z
    have at4 : Inv X pins σ2 H' { s1 with heap := h3.push tp } := at3.kept (t' := s1.toks) k4
    obtain ⟨ob, hob, hoc⟩ := fl4.there
    have LT : PySem.W.Looks (model X.prog X.w) (h3.push tp) (typeOf (.ref ea)) cls := hoc ▸ (PySem.W.Looks.ld hob).andThen .now
    refine (PySem.W.exm_tup2 at4.kIn LT (tp := h3.objs.size) (by rw [← htp]; exact Heap.get?_push_size h3 rfl) hxm).at ?_
    refine codeAny_handlers_suite ?_
    refine land2 (s := { s1 with heap := h3.push tp }) fl4.2.1 ⟨fl4.1, fl4.2.2.1, fl4.2.2.2⟩ ctx4 fun h5 fl5 up5 ctx5 => ?_
    have up35 : s1.heap.UpToSlots h5 := ((up2.trans up3).trans (Heap.UpToSlots.of_keeps k4)).trans up5
    have at5 : Inv X pins σ2 H' { s1 with heap := h5 } := (I2.flown (h' := h5) hos un hok hg' cov fl5.1 up35).ofTry
    refine wpAny_execs_cons ?_
    rw [arm_exec_Raise]
    refine wpAny_bind (wpAny_standAt ?_)
    obtain ⟨m, N, nm, qn, bs, hdt, sn, sub, ab, col, dd, k0, k1, k2, k3, k5, mN, hC, hN, hni, T⟩ := exc_obj at5.kIn hx
    refine raise_from (hd := ea) (C := C3) (nm := nm) (q := qn) (N := N) (bs := bs) (bm := m) (hdct := hdt) (sn := sn) (sub := sub) (ab := ab) (col := col) (dd := dd) (k0 := k0) (k1 := k1) (k2 := k2) (k3 := k3) (k5 := k5) (newId := "ValueError.__new__") (T.hasType PySem.F.excBase_ValueError.hasBase) rfl ?_
    refine wpAny_bind (wpAny_Call_ofName (ld_glob (X := X.handCx (some (.ref ea))) (at5.toHand _) hg3 hm3 ?_ hd3))
    unfold callWith
    refine wpAny_bind (wpAny_holding ?_)
    rw [he]
    refine Calls.evalArgs_plain (Calls.spliced_cons (Calls.Constant_str (k := j) (pos := p) (Calls.spliced_nil ?_)))
    refine wpAny_bind (wpAny_standAt ?_)
    simp only [backTo, List.map_cons, List.map_nil, List.any_cons, List.any_nil, Bool.or_false]
    refine wpAny_bind (wpAny_keeperOf_exc hC ?_)
    refine wpAny_bind (wpAny_call_exc_subT (hrest := by show 1 ≤ sizeLine; decide) PySem.F.excBase_ValueError T hC hN hni fun h6 e made => wpAny_bind (wpAny_holding (wpAny_point (wpAny_pure ?_))))
    refine wpAny_bind (wpAny_standAt (wpAny_pure ?_))
    obtain ⟨tt, made1, made2, made3⟩ := made.there
    have ne : ea ≠ e := fun z => by
      obtain ⟨ob, q1, _⟩ := fl5.there
      have q2 := made.new
      rw [← z] at q2
      rw [q1] at q2
      cases q2
    obtain ⟨o5, vs5, c1, c2, c3⟩ := ctx5 rfl
    refine ⟨e, tt, rfl, ne, made.keeps _ _ hC, made1, ⟨o5, vs5, made.keeps _ _ c1, c2, c3⟩, fun h7 k7 e7 => ?_⟩
    have Be : B.get? e = none := by
      cases q1 : B.get? e with
      | none => rfl
      | some u =>
        have q2 := fl5.1 e u q1
        rw [made.new] at q2
        cases q2
    have k57 : ∀ b o, h5.get? b = some o → h7.get? b = some o := fun b o z => k7 b o (fun y => by rw [y, made.new] at z; cases z) (made.keeps b o z)
    have fl7 := FlyingW_keeps fl5 k57
    have up7 : s1.heap.UpToSlots h7 := up35.trans (Heap.UpToSlots.of_keeps k57)
    show wpAny (model X.prog X.w) (X.A.mark (some (.ref ea))) (noteFrame (.ref e) X.env) _ _ _
    refine note_new (c := some 0) (B := B) (a0 := .ref tt) (s := { s1 with heap := h7, toks := s1.toks + 1 }) fr fl7.1 fl7.2.2.1 L.frame e7 Be rfl rfl rfl (fun z => nomatch z) fun h8 held8 up8 ctx8 => ?_
    show cameBackBy _ _ _ _ _ _
    unfold cameBackBy
    obtain ⟨o8, us, T8, o9, ws, q1, q2, q3, q4, q5, q6, q7, q8, q9⟩ := held8.2.2.2
    refine wpAny_bind (wpAny_field q1 q3 q4 ?_)
    rw [if_neg (by simp)]
    rw [L.frame]
    refine flight_set (s := { s1 with heap := h8, toks := s1.toks + 1 }) (c := some 0) (v := rawInt X.env.locals) rfl held8.1 held8.2.2.1 held8.2.2.2 ctx8 fun h9 y1 y2 y3 up9 ctx9 => ?_
    rw [L.xe]
    show wpAny (model X.prog X.w) X.A (leaving X.env (.ref e)) _ _ { s1 with heap := h9, toks := s1.toks + 1 }
    unfold leaving
    refine wpAny_bind (wpAny_noteFrame_againW (s := { s1 with heap := h9, toks := s1.toks + 1 }) L.frame y3 ?_)
    refine land2 (s := { s1 with heap := h9, toks := s1.toks + 1 }) Be ⟨y1, y2, y3⟩ ctx9 fun h10 fl10 up10 ctx10 => ?_
    have s0 : ∀ b, X.s₀.heap.get? b ≠ none → s2.heap.get? b ≠ none := fun b hb => by
      cases eh : X.s₀.heap.get? b with
      | none => exact absurd eh hb
      | some u =>
        have base := I2.ofTry.base
        rw [L.ex] at base
        obtain ⟨o', e'⟩ := base.there b u eh (by simp)
        rw [e']; simp
    refine letsC_done (s := { s1 with heap := h10, toks := s1.toks + 1 }) (s' := s1) (B := B) (tg := some 0) L I1 ⟨fl10.1, fl10.2.1, fl10.2.2.1.2.2, fl10.2.2.2⟩ (((up7.trans up8).trans up9).trans up10) (fun b o z hb n => cov b o z (hb.imp id (s0 b)) n) rfl hg' ?_ ctx10 hE
    cases eh : X.s₀.heap.get? e with
    | none => rfl
    | some u =>
      have base := I1.base
      rw [L.ex] at base
      obtain ⟨o', z1⟩ := base.there e u eh (by simp)
      by_cases hs : e ∈ frs X.stack
      · have hm : e ∈ (X.env :: X.outer).filterMap (·.frame) := by rw [← L.stack]; exact hs
        obtain ⟨_, o3, z3, _⟩ := fl5.2.2.1.mem hm
        rw [made.new] at z3
        cases z3
      · have z2 := cov e o' z1 (.inr (s0 e (by rw [eh]; simp))) hs
        rw [Be] at z2
        cases z2
  refine wpAny_Try_except ?_
  refine wpAny_mono (hb _ _ E1 pass [] s σ H D (I.toTry _) hbody) (fun f s1 q => ?_) (fun e s1 z => z)
  cases f with
  | next =>
    obtain ⟨σ', H', I', q⟩ := q
    exact wpAny_execs_nil ⟨σ', H', I'.ofTry, q⟩
  | ret v =>
    obtain ⟨v', σ', H', I', r, q⟩ := q
    exact ⟨v', σ', H', I'.ofTry, r, q⟩
  | brk =>
    obtain ⟨σ', H', I', q⟩ := q
    exact ⟨σ', H', I'.ofTry, q⟩
  | cont =>
    obtain ⟨σ', H', I', q⟩ := q
    exact ⟨σ', H', I'.ofTry, q⟩
end
end L2

namespace L2
open PySem PySem.Spec PyProof.Rows
section
variable {P : Program} {w : World} {K : PySem.W.Frag} {mg : Str → Option Value} {base : Heap}
theorem FnOk.toC {k : Nat} {f : Addr} {fd : FuncData} {ps : List Str} {sp : Sp} (F : FnOk P w K mg base CX0 k f fd ps sp) : FnOk P w K mg base (CXC P w) k f fd ps sp :=
  ⟨F.len, fun A outer s H args us vs Q E hr e0 hb r h => codeAny_mono (F.run A outer s H args us vs Q E hr e0 hb r h) fun rr s' z => by
    cases rr with
    | ok fl => cases fl <;> exact z
    | error e => exact False.elim z⟩
theorem FnOk.orC {k : Nat} {f : Addr} {fd : FuncData} {ps : List Str} {a b : Sp} (F : FnOk P w K mg base (CXC P w) k f fd ps a) (G : FnOk P w K mg base (CXC P w) k f fd ps b) : FnOk P w K mg base (CXC P w) k f fd ps (spOr a b) :=
  ⟨fun vs H Q E h => h.elim (F.len vs H Q E) (G.len vs H Q E), fun A outer s H args us vs Q E hr e0 hb r h => h.elim (F.run A outer s H args us vs Q E hr e0 hb r) (G.run A outer s H args us vs Q E hr e0 hb r)⟩
end
end L2
namespace Lw
open PySem PySem.Spec PyProof.Rows L2 Lamp
def Spl (x : List Nat) (bk : List (List Nat)) : Prop := bk ≠ [] ∧ (∀ l ∈ bk, 47 ∉ l) ∧ joinN 47 bk = x
theorem Spl.uniq {x : List Nat} {a b : List (List Nat)} (h : Spl x a) (k : Spl x b) : a = b := joinN_inj h.1 k.1 h.2.1 k.2.1 (h.2.2.trans k.2.2.symm)
theorem Spl.nil : Spl [] [[]] := ⟨by simp, by simp, rfl⟩
theorem Spl.stroke {x : List Nat} {bk : List (List Nat)} (h : Spl x bk) : Spl (x ++ [47]) (bk ++ [[]]) := by
  obtain ⟨h1, h2, h3⟩ := h
  refine ⟨by simp, fun l hl => ?_, by rw [joinN_snoc h1, h3]⟩
  rcases List.mem_append.mp hl with z | z
  · exact h2 l z
  · have e : l = [] := by simpa using z
    rw [e]; simp
theorem Spl.sign {x l : List Nat} {bk : List (List Nat)} {c : Nat} (h : Spl x (bk ++ [l])) (hc : c ≠ 47) : Spl (x ++ [c]) (bk ++ [l ++ [c]]) := by
  obtain ⟨h1, h2, h3⟩ := h
  refine ⟨by simp, fun y hy => ?_, by rw [joinN_last, h3]⟩
  rcases List.mem_append.mp hy with z | z
  · exact h2 y (List.mem_append_left _ z)
  · have e : y = l ++ [c] := by simpa using z
    subst e
    intro w
    rcases List.mem_append.mp w with w | w
    · exact h2 l (by simp) w
    · have : 47 = c := by simpa using w
      exact hc this.symm
theorem spl_ex : ∀ x : List Nat, ∃ bk, Spl x bk
  | [] => ⟨_, Spl.nil⟩
  | c :: x => by
    obtain ⟨bk, h1, h2, h3⟩ := spl_ex x
    cases bk with
    | nil => exact absurd rfl h1
    | cons b r =>
      by_cases hc : c = 47
      · subst hc
        refine ⟨[] :: b :: r, by simp, fun l hl => ?_, by rw [← h3]; rfl⟩
        rcases List.mem_cons.mp hl with z | z
        · rw [z]; simp
        · exact h2 l z
      · refine ⟨(c :: b) :: r, by simp, fun l hl => ?_, ?_⟩
        · rcases List.mem_cons.mp hl with z | z
          · rw [z]
            intro w
            rcases List.mem_cons.mp w with w | w
            · exact hc w.symm
            · exact h2 b (by simp) w
          · exact h2 l (List.mem_cons_of_mem _ z)
        · rw [← h3]
          cases r <;> rfl
theorem joinN_low : ∀ {bk : List (List Nat)}, bk ≠ [] → bk.length ≤ (joinN 47 bk).length + 1 ∧ ∀ l ∈ bk, l.length ≤ (joinN 47 bk).length
  | [], h => absurd rfl h
  | [x], _ => ⟨by simp, fun l hl => by
      have e : l = x := by simpa using hl
      rw [e]; exact Nat.le_refl _⟩
  | x :: y :: r, _ => by
    obtain ⟨i1, i2⟩ := joinN_low (bk := y :: r) (by simp)
    have e : (joinN 47 (x :: y :: r)).length = x.length + ((joinN 47 (y :: r)).length + 1) := by
      show (x ++ 47 :: joinN 47 (y :: r)).length = _
      rw [List.length_append, List.length_cons]
    rw [e]
    refine ⟨by rw [List.length_cons]; omega, fun l hl => ?_⟩
    rcases List.mem_cons.mp hl with z | z
    · rw [z]; omega
    · have := i2 l z
      omega
theorem Spl.len {x : List Nat} {bk : List (List Nat)} (h : Spl x bk) : bk.length ≤ x.length + 1 := by
  have := (joinN_low h.1).1
  rw [h.2.2] at this
  exact this
theorem Spl.each {x : List Nat} {bk : List (List Nat)} (h : Spl x bk) {l : List Nat} (hl : l ∈ bk) : l.length ≤ x.length := by
  have := (joinN_low h.1).2 l hl
  rw [h.2.2] at this
  exact this
theorem Spl.szs {x : List Nat} {bk : List (List Nat)} (h : Spl x bk) (hx : x.length ≤ 800) : Szs bk := ⟨by have := h.len; omega, fun l hl => by have := h.each hl; omega⟩
theorem Spl.of_split {x : List Nat} {bk ps : List (List Nat)} (h : Spl x bk) (e : Txt.split (T x) (T [47]) = ps.map T) : ps = bk := by
  obtain ⟨h1, h2, rfl⟩ := h
  exact split_is h1 h2 e
def sp_read16 (_ : PySem.W.Frag) (c : Cs) : Sp := fun vs H Q E => ∃ x bk, vs = [.str (T x)] ∧ x.length ≤ 800 ∧ Spl x bk ∧ (BkOk bk → ∀ p H', Same H H' → H p = none → H' p = some (.lst (bk.map strT)) → Q (.ref p) H') ∧ (¬ BkOk bk → ∀ H', Same H H' → E (.ref c.NoNote) (some 0) H')
def sp_due16 (_ : PySem.W.Frag) : Sp := fun vs H Q _ => ∃ x bk, vs = [.str (T x)] ∧ x.length ≤ 800 ∧ Spl x bk ∧ (BkOk bk → ∀ p H', Same H H' → H p = none → H' p = some (.lst (bk.map strT)) → Q (.ref p) H') ∧ (¬ BkOk bk → ∀ H', Same H H' → Q .non H')
def sp_tried16 (_ : PySem.W.Frag) : Sp := fun vs H Q _ => ∃ x bk, vs = [.str (T x)] ∧ x.length ≤ 800 ∧ Spl x bk ∧ (BkOk bk → ∀ p H', Same H H' → H p = none → H' p = some (.lst (bk.map strT)) → Q (.ref p) H') ∧ (¬ BkOk bk → ∀ H', Same H H' → Q (.str (T (word 5))) H')
def sp_spoilt16 (_ : PySem.W.Frag) : Sp := fun vs H Q _ => ∃ x k cell, vs = [.str (T x), .int k, .int cell] ∧ x.length ≤ 100 ∧ 0 ≤ cell ∧ ∀ y H', Same H H' → y.length ≤ 800 → Q (.str (T y)) H'
end Lw

namespace Lw
open PySem PySem.Spec PyProof.Rows L2 Lamp
def top (i : Nat) : Stmt := PySem.Challenge.pw_lampwatch_k16_read.main.body.getD i (.Pass ⟨0, 0, 0, 0⟩)
structure Mo (K : PySem.W.Frag) (mg : Str → Option Value) (c : Cs) : Prop where
  ValueError : mg "ValueError" = none
  isinstance : mg "isinstance" = none
  len : mg "len" = none
  list : mg "list" = none
  range : mg "range" = none
  DARK : ∃ u, mg "DARK" = some u ∧ RelV (.str (T [46])) u
  LIT : ∃ u, mg "LIT" = some u ∧ RelV (.str (T [111])) u
  LONGEST_ROW : ∃ u, mg "LONGEST_ROW" = some u ∧ RelV (.int 12) u
  MOST_LIGHTS : ∃ u, mg "MOST_LIGHTS" = some u ∧ RelV (.int 5) u
  STROKE : ∃ u, mg "STROKE" = some u ∧ RelV (.str (T [47])) u
  g_LampError : mg "LampError" = some (.ref c.LampError)
  g_NoLight : mg "NoLight" = some (.ref c.NoLight)
  g_NoBook : mg "NoBook" = some (.ref c.NoBook)
  g_NoSight : mg "NoSight" = some (.ref c.NoSight)
  g_NoFit : mg "NoFit" = some (.ref c.NoFit)
  g_TooLong : mg "TooLong" = some (.ref c.TooLong)
  g_NoNote : mg "NoNote" = some (.ref c.NoNote)
  x_NoLight : PySem.W.excIn K c.NoLight [.type "ValueError", .type "Exception", .type "BaseException", .type "object"] "ValueError.__new__" = true
  x_NoBook : PySem.W.excIn K c.NoBook [.type "ValueError", .type "Exception", .type "BaseException", .type "object"] "ValueError.__new__" = true
  x_NoNote : PySem.W.excIn K c.NoNote [.type "ValueError", .type "Exception", .type "BaseException", .type "object"] "ValueError.__new__" = true
  e_NoNote : PySem.W.exmOne K (.ref c.NoNote) (.ref c.LampError) = some true
  d_NoNote : Kd K c c.NoNote 5
  n_NoBook : PySem.W.exmAny K (.ref c.NoBook) [.ref c.NoBook, .ref c.NoLight] = some true
  n_NoLight : PySem.W.exmAny K (.ref c.NoLight) [.ref c.NoBook, .ref c.NoLight] = some true
section
variable {c : Cs} {P : Program} {w : World} {K : PySem.W.Frag} {mg : Str → Option Value} {base : Heap}
abbrev s_lit_and_dark_alone : Stmt := top 12
theorem sc_lit_and_dark_alone : FnScope ["text", "sign"] ["text"] (defScope s_lit_and_dark_alone) := ⟨rfl, rfl, rfl, by decide +kernel, rfl, by decide +kernel, by decide +kernel⟩
set_option maxHeartbeats 4000000 in
theorem ok_lit_and_dark_alone (S : Src K mg "lit_and_dark_alone" s_lit_and_dark_alone) (M : Mo K mg c) : Def P w K mg base 1 "lit_and_dark_alone" ["text"] (sp_lit_and_dark_alone K) := by
  refine S.is (fun _ _ _ _ _ _ us hl => match us, hl with | [_], _ => rfl) fun f fd F => ?_
  refine F.ok sc_lit_and_dark_alone (fun vs H Q E h => ?_) (fun cdv A outer s H vs Q E hr h => ?_)
  · obtain ⟨l, rfl, _⟩ := h
    rfl
  obtain ⟨l, rfl, q⟩ := h
  refine ⟨_, (pss_cons (ps_for PassesOwn.never rfl (pi_str (pv 0)) (pg_name (i := 1) sc_lit_and_dark_alone.nd rfl (Or.inl rfl)) (pss_one (ps_if (pw_and (pt_cmpR op_ne (pv 1) (pe_const M.LIT) (nomark _)) (pw_and1 (pt_cmpR op_ne (pv 1) (pe_const M.DARK) (nomark _)))).pt (pss_one (ps_ret pe_bl)) pss_nil)))
    (pss_one (ps_ret pe_bl))), ?_⟩
  refine ⟨_, rfl, _, rfl, ?_⟩
  refine for_str (l := l) (fun i σ H' => H' = H ∧ (∃ u, σ = [some (.str (T l)), u]) ∧ ∀ j c, j < i → l[j]? = some c → c = 46 ∨ c = 111) ?hinit ?_ ?_
  case hinit => exact ⟨rfl, ⟨_, rfl⟩, fun j c hj => by omega⟩
  · rintro i c σ H' hc ⟨rfl, ⟨u, rfl⟩, hn⟩
    have more : (c = 46 ∨ c = 111) → ∀ j d, j < i + 1 → l[j]? = some d → d = 46 ∨ d = 111 := fun z j d hj hd => by
      by_cases e : j = i
      · subst e
        rw [hc] at hd
        cases hd
        exact z
      · exact hn j d (by omega) hd
    refine ⟨_, rfl, rfl, _, rfl, ifn_dec (fun h1 => ?_) (fun h1 => iteF ⟨rfl, ⟨_, rfl⟩, more (.inr (by rw [T_eq] at h1; simpa using h1))⟩)⟩
    refine ⟨_, rfl, rfl, _, rfl, ifn_dec (fun h2 => ?_) (fun h2 => ⟨rfl, ⟨_, rfl⟩, more (.inl (by rw [T_eq] at h2; simpa using h2))⟩)⟩
    have e : isLit l = false := Bool.eq_false_iff.mpr fun z => by
      rw [T_eq] at h1 h2
      rcases isLit_iff.mp z c (List.mem_of_getElem? hc) with e | e
      · exact h2 (by rw [e])
      · exact h1 (by rw [e])
    rw [e] at q
    exact q
  · rintro σ H' ⟨rfl, _, hn⟩
    have e : isLit l = true := isLit_iff.mpr fun c hc => by
      obtain ⟨j, hj, ej⟩ := List.getElem_of_mem hc
      exact hn j c hj (by rw [List.getElem?_eq_getElem hj, ej])
    rw [e] at q
    exact q
abbrev s_check_light : Stmt := top 13
theorem sc_check_light : FnScope ["light"] ["light"] (defScope s_check_light) := ⟨rfl, rfl, rfl, by decide +kernel, rfl, by decide +kernel, by decide +kernel⟩
set_option maxHeartbeats 4000000 in
theorem okp_check_light {f : Addr} {fd : FuncData} (F : Fun K "check_light" "check_light" s_check_light f fd) (M : Mo K mg c) (D_lit_and_dark_alone : Def P w K mg base 1 "lit_and_dark_alone" ["text"] (sp_lit_and_dark_alone K)) : FnOk P w K mg base CX0 2 f fd ["light"] (sp_check_light K) := by
  refine F.ok sc_check_light (fun vs H Q E h => ?_) (fun cdv A outer s H vs Q E hr h => ?_)
  · obtain ⟨l, rfl, _⟩ := h
    rfl
  obtain ⟨l, rfl, hl, q⟩ := h
  have h1 := hl.1
  have h2 := hl.2.1
  refine ⟨_, (pss_cons (ps_if (pw_or (pt_cmpR op_lt (pe_callB call_lenT (by rfl) M.len PySem.boot_len (pa_cons (pv 0) pa_nil)) pe_int (nomark _)) (pw_or1 (pt_cmpR op_gt (pe_callB call_lenT (by rfl) M.len PySem.boot_len (pa_cons (pv 0) pa_nil)) (pe_const M.LONGEST_ROW) (nomark _)))).pt (pss_one ps_never) pss_nil)
    (pss_one (ps_if (pt_not (pt_val (pe_callD D_lit_and_dark_alone hr (by rfl) (pa_cons (pv 0) pa_nil)))) (pss_one ps_never) pss_nil))), ?_⟩
  refine ⟨_, rfl, _, rfl, sz (by omega), _, _, rfl, rfl, _, rfl, ?_⟩
  refine if_no (by omega) ?_
  refine ⟨_, rfl, _, rfl, sz (by omega), _, _, rfl, rfl, _, rfl, ?_⟩
  refine if_no (by omega) ?_
  refine ⟨_, rfl, _, rfl, _, rfl, ?_⟩
  rw [hl.isLit]
  exact iteF q
set_option maxHeartbeats 4000000 in
theorem okb_check_light {f : Addr} {fd : FuncData} (F : Fun K "check_light" "check_light" s_check_light f fd) (M : Mo K mg c) (D_lit_and_dark_alone : Def P w K mg base 1 "lit_and_dark_alone" ["text"] (sp_lit_and_dark_alone K)) : FnOk P w K mg base (CXC P w) 2 f fd ["light"] (sp_check_lightB K c) := by
  refine F.okC sc_check_light (fun vs H Q E h => ?_) (fun cdv A outer s H vs Q E hr L h => ?_)
  · obtain ⟨l, rfl, _⟩ := h
    rfl
  obtain ⟨l, rfl, hz, nl, q⟩ := h
  refine ⟨_, (pss_cons (ps_if (pw_or (pt_cmpR op_lt (pe_callB call_lenT (by rfl) M.len PySem.boot_len (pa_cons (pv 0) pa_nil)) pe_int (nomark _)) (pw_or1 (pt_cmpR op_gt (pe_callB call_lenT (by rfl) M.len PySem.boot_len (pa_cons (pv 0) pa_nil)) (pe_const M.LONGEST_ROW) (nomark _)))).pt (pss_one (psC_raise L (by rfl) M.g_NoLight M.x_NoLight)) pss_nil)
    (pss_one (ps_if (pt_not (pt_val (pe_callD D_lit_and_dark_alone hr (by rfl) (pa_cons (pv 0) pa_nil)))) (pss_one (psC_raise L (by rfl) M.g_NoLight M.x_NoLight)) pss_nil))), ?_⟩
  refine ⟨_, rfl, _, rfl, sz (by omega), _, _, rfl, rfl, _, rfl, if_dec (fun c1 => iteT q) (fun c1 => ?_)⟩
  refine ⟨_, rfl, _, rfl, sz (by omega), _, _, rfl, rfl, _, rfl, if_dec (fun c2 => q) (fun c2 => ?_)⟩
  refine ⟨_, rfl, _, rfl, _, rfl, ?_⟩
  have e : isLit l = false := Bool.eq_false_iff.mpr fun z => nl ⟨by omega, by omega, isLit_iff.mp z⟩
  rw [e]
  exact iteT q
theorem ok_check_light (S : Src K mg "check_light" s_check_light) (M : Mo K mg c) (D_lit_and_dark_alone : Def P w K mg base 1 "lit_and_dark_alone" ["text"] (sp_lit_and_dark_alone K)) : Def P w K mg base 2 "check_light" ["light"] (sp_check_light K) :=
  S.is (fun _ _ _ _ _ _ us hl => match us, hl with | [_], _ => rfl) fun f fd F => okp_check_light F M D_lit_and_dark_alone
theorem okE_check_light (S : Src K mg "check_light" s_check_light) (M : Mo K mg c) (D_lit_and_dark_alone : Def P w K mg base 1 "lit_and_dark_alone" ["text"] (sp_lit_and_dark_alone K)) : DefC P w K mg base 2 "check_light" ["light"] (spOr (sp_check_light K) (sp_check_lightB K c)) :=
  S.isC (fun _ _ _ _ _ _ us hl => match us, hl with | [_], _ => rfl) fun f fd F => FnOk.orC (okp_check_light F M D_lit_and_dark_alone).toC (okb_check_light F M D_lit_and_dark_alone)
abbrev s_check_book : Stmt := top 16
theorem sc_check_book : FnScope ["book", "light"] ["book"] (defScope s_check_book) := ⟨rfl, rfl, rfl, by decide +kernel, rfl, by decide +kernel, by decide +kernel⟩
set_option maxHeartbeats 4000000 in
theorem okp_check_book {f : Addr} {fd : FuncData} (F : Fun K "check_book" "check_book" s_check_book f fd) (M : Mo K mg c) (D_check_light : Def P w K mg base 2 "check_light" ["light"] (sp_check_light K)) : FnOk P w K mg base CX0 3 f fd ["book"] (sp_check_book K) := by
  refine F.ok sc_check_book (fun vs H Q E h => ?_) (fun cdv A outer s H vs Q E hr h => ?_)
  · obtain ⟨a, bk, rfl, _⟩ := h
    rfl
  obtain ⟨a, bk, rfl, hB, hO, q⟩ := h
  have h1 := hO.lo
  have h2 := hO.hi
  have hl : (bk.map strT).length = bk.length := List.length_map _
  refine ⟨_, (pss_cons (ps_if (pw_or (pt_cmpR op_lt (pe_callB call_len_seq (by rfl) M.len PySem.boot_len (pa_cons (pv 0) pa_nil)) pe_int (nomark _)) (pw_or1 (pt_cmpR op_gt (pe_callB call_len_seq (by rfl) M.len PySem.boot_len (pa_cons (pv 0) pa_nil)) (pe_const M.MOST_LIGHTS) (nomark _)))).pt (pss_one ps_never) pss_nil)
    (pss_one (ps_for PassesOwn.never rfl (pi_list (pv 0)) (pg_name (i := 1) sc_check_book.nd rfl (Or.inl rfl)) (pss_one (ps_expr (pe_callD D_check_light hr (by rfl) (pa_cons (pv 1) pa_nil))))))), ?_⟩
  refine ⟨_, rfl, a, _, rfl, .inl hB, _, _, rfl, rfl, _, rfl, if_no (by omega) ?_⟩
  refine ⟨_, rfl, a, _, rfl, .inl hB, _, _, rfl, rfl, _, rfl, if_no (by omega) ?_⟩
  refine ⟨_, rfl, a, rfl, ⟨_, hB⟩, ?_⟩
  refine for_list (K := K) (a := a) (xs := bk.map strT) (fun i σ H' => H' = H ∧ ∃ u, σ = [some (.ref a), u]) ?hinit (fun i σ H' _ z => by rw [z.1]; exact hB) ?_ ?_
  case hinit => exact ⟨rfl, _, rfl⟩
  · rintro i x σ H' hx ⟨rfl, u, rfl⟩
    obtain ⟨l, hl, rfl⟩ := List.mem_map.mp (List.mem_of_getElem? hx)
    exact ⟨_, rfl, l, rfl, hO.lit l hl, rfl, _, rfl⟩
  · rintro σ H' ⟨rfl, _⟩
    exact q
set_option maxHeartbeats 4000000 in
theorem okb_check_book {f : Addr} {fd : FuncData} (F : Fun K "check_book" "check_book" s_check_book f fd) (M : Mo K mg c) (O_check_light : DefC P w K mg base 2 "check_light" ["light"] (spOr (sp_check_light K) (sp_check_lightB K c))) : FnOk P w K mg base (CXC P w) 3 f fd ["book"] (sp_check_bookB K c) := by
  refine F.okC sc_check_book (fun vs H Q E h => ?_) (fun cdv A outer s H vs Q E hr L h => ?_)
  · obtain ⟨a, bk, rfl, _⟩ := h
    rfl
  obtain ⟨a, bk, rfl, hB, zs, q⟩ := h
  have hl : (bk.map strT).length = bk.length := List.length_map _
  refine ⟨_, (pss_cons (ps_if (pw_or (pt_cmpR op_lt (pe_callB call_len_seq (by rfl) M.len PySem.boot_len (pa_cons (pv 0) pa_nil)) pe_int (nomark _)) (pw_or1 (pt_cmpR op_gt (pe_callB call_len_seq (by rfl) M.len PySem.boot_len (pa_cons (pv 0) pa_nil)) (pe_const M.MOST_LIGHTS) (nomark _)))).pt (pss_one (psC_raise L (by rfl) M.g_NoBook M.x_NoBook)) pss_nil)
    (pss_one (ps_for L.passes rfl (pi_list (pv 0)) (pg_name (i := 1) sc_check_book.nd rfl (Or.inl rfl)) (pss_one (ps_expr (pe_callC O_check_light L.pass hr (by rfl) (pa_cons (pv 1) pa_nil))))))), ?_⟩
  rcases q with ⟨nl, q⟩ | ⟨lo, nl, q⟩
  · refine ⟨_, rfl, a, _, rfl, .inl hB, _, _, rfl, rfl, _, rfl, if_dec (fun c1 => iteT q) (fun c1 => ?_)⟩
    refine ⟨_, rfl, a, _, rfl, .inl hB, _, _, rfl, rfl, _, rfl, if_yes ?_ q⟩
    apply Classical.byContradiction
    intro c2
    exact nl ⟨by omega, by omega⟩
  have h1 := lo.1
  have h2 := lo.2
  refine ⟨_, rfl, a, _, rfl, .inl hB, _, _, rfl, rfl, _, rfl, if_no (by omega) ?_⟩
  refine ⟨_, rfl, a, _, rfl, .inl hB, _, _, rfl, rfl, _, rfl, if_no (by omega) ?_⟩
  refine ⟨_, rfl, a, rfl, ⟨_, hB⟩, ?_⟩
  refine for_list (K := K) (a := a) (xs := bk.map strT) (fun i σ H' => H' = H ∧ (∃ u, σ = [some (.ref a), u]) ∧ ∀ j, j < i → Lit (nth bk j)) ?hinit (fun i σ H' _ z => by rw [z.1]; exact hB) ?_ ?_
  case hinit => exact ⟨rfl, ⟨_, rfl⟩, (fun j hj => by omega)⟩
  · rintro i x σ H' hx ⟨rfl, ⟨u, rfl⟩, al⟩
    obtain ⟨hi, rfl⟩ := strT_of hx
    by_cases c : Lit (nth bk i)
    · refine ⟨_, rfl, .inl ⟨_, rfl, c, rfl, ⟨_, rfl⟩, fun j hj => ?_⟩⟩
      by_cases e : j = i
      · subst e; exact c
      · exact al j (by omega)
    · exact ⟨_, rfl, .inr ⟨_, rfl, (by have := zs.each _ (nth_mem hi); omega), c, q⟩⟩
  · rintro σ H' ⟨rfl, _, al⟩
    refine absurd (fun l hlm => ?_) nl
    obtain ⟨j, hj, ej⟩ := List.getElem_of_mem hlm
    have := al j (by rw [hl]; exact hj)
    rw [nth_of (by rw [List.getElem?_eq_getElem hj, ej])] at this
    exact this
theorem ok_check_book (S : Src K mg "check_book" s_check_book) (M : Mo K mg c) (D_check_light : Def P w K mg base 2 "check_light" ["light"] (sp_check_light K)) : Def P w K mg base 3 "check_book" ["book"] (sp_check_book K) :=
  S.is (fun _ _ _ _ _ _ us hl => match us, hl with | [_], _ => rfl) fun f fd F => okp_check_book F M D_check_light
theorem okE_check_book (S : Src K mg "check_book" s_check_book) (M : Mo K mg c) (D_check_light : Def P w K mg base 2 "check_light" ["light"] (sp_check_light K)) (O_check_light : DefC P w K mg base 2 "check_light" ["light"] (spOr (sp_check_light K) (sp_check_lightB K c))) : DefC P w K mg base 3 "check_book" ["book"] (spOr (sp_check_book K) (sp_check_bookB K c)) :=
  S.isC (fun _ _ _ _ _ _ us hl => match us, hl with | [_], _ => rfl) fun f fd F => FnOk.orC (okp_check_book F M D_check_light).toC (okb_check_book F M O_check_light)
abbrev s_read : Stmt := top 19
theorem sc_read : FnScope ["text", "book"] ["text"] (defScope s_read) := ⟨rfl, rfl, rfl, by decide +kernel, rfl, by decide +kernel, by decide +kernel⟩
set_option maxHeartbeats 4000000 in
theorem ok_read (S : Src K mg "read" s_read) (M : Mo K mg c) (O_check_book : DefC P w K mg base 3 "check_book" ["book"] (spOr (sp_check_book K) (sp_check_bookB K c))) : DefC P w K mg base 4 "read" ["text"] (sp_read16 K c) := by
  refine S.isC (fun _ _ _ _ _ _ us hl => match us, hl with | [_], _ => rfl) fun f fd F => ?_
  refine F.okC sc_read (fun vs H Q E h => ?_) (fun cdv A outer s H vs Q E hr L h => ?_)
  · obtain ⟨x, bk, rfl, _⟩ := h
    rfl
  obtain ⟨x, bk, rfl, hx, hs, q1, q2⟩ := h
  refine ⟨_, (pss_cons (ps_set (i := 1) sc_read.nd rfl (Or.inl rfl) (pe_bm PySem.F.plainAttrs_str PySem.F.slot_str_split PySem.F.type_str_split mt_split (pv 0) (pa_cons (pe_const M.STROKE) pa_nil)))
    (pss_cons (psC_tryR L (by rfl) M.g_NoBook (by rfl) M.g_NoLight (by rfl) M.g_NoNote M.x_NoNote (fun _ _ _ hp => (pss_one (ps_expr (pe_callC O_check_book hp hr (by rfl) (pa_cons (pv 1) pa_nil))))))
    (pss_one (ps_ret (pv 1))))), ?_⟩
  refine ⟨_, rfl, rfl, _, 47, rfl, rfl, by omega, fun ps e _ p hp => ?_⟩
  obtain rfl := hs.of_split e
  refine ⟨fun cls tg H1 => tg = none ∧ (cls = .ref c.NoBook ∨ cls = .ref c.NoLight) ∧ H1 = upd H p (.lst (ps.map strT)) ∧ ¬ BkOk ps, ?_, ?_⟩
  · by_cases hO : BkOk ps
    · refine ⟨_, rfl, .inl ⟨p, ps, rfl, SqL.of upd_same, hO, ?_⟩⟩
      exact ⟨_, rfl, q1 hO p _ (same_new hp _) hp upd_same⟩
    · refine ⟨_, rfl, .inr ⟨p, ps, rfl, SqL.of upd_same, hs.szs hx, ?_⟩⟩
      by_cases lo : lenOk ps
      · exact .inr ⟨lo, fun li => hO (.of lo li), rfl, .inr rfl, rfl, hO⟩
      · exact .inl ⟨lo, rfl, .inl rfl, rfl, hO⟩
  · rintro cls tg H1 ⟨rfl, hc, rfl, nO⟩
    refine ⟨rfl, ?_, q2 nO _ (same_new hp _)⟩
    rcases hc with rfl | rfl
    · exact M.n_NoBook
    · exact M.n_NoLight
abbrev s_law_cell_at : Stmt := top 21
theorem sc_law_cell_at : FnScope ["script", "k"] ["script", "k"] (defScope s_law_cell_at) := ⟨rfl, rfl, rfl, by decide +kernel, rfl, by decide +kernel, by decide +kernel⟩
set_option maxHeartbeats 4000000 in
theorem ok_law_cell_at (S : Src K mg "_law_cell_at" s_law_cell_at) (M : Mo K mg c) : Def P w K mg base 1 "_law_cell_at" ["script", "k"] (sp_law_cell_at K) := by
  refine S.is (fun _ _ _ _ _ _ us hl => match us, hl with | [_, _], _ => rfl) fun f fd F => ?_
  refine F.ok sc_law_cell_at (fun vs H Q E h => ?_) (fun cdv A outer s H vs Q E hr h => ?_)
  · obtain ⟨a, ns, k, rfl, _⟩ := h
    rfl
  obtain ⟨a, ns, k, rfl, hS, h0, q⟩ := h
  refine ⟨_, (pss_cons (ps_if (pt_cmpR op_lt (pv 1) (pe_callB call_len_seq (by rfl) M.len PySem.boot_len (pa_cons (pv 0) pa_nil)) (nomark _)) (pss_one (ps_ret (pe_ix ix_list (pv 0) (pv 1) (fun _ _ => rfl)))) pss_nil)
    (pss_one (ps_ret pe_int))), ?_⟩
  refine ⟨_, rfl, _, rfl, a, _, rfl, .inl hS, _, _, rfl, rfl, _, rfl, if_dec (fun c => ?_) (fun c => q _)⟩
  rw [List.length_map] at c
  have hk : k.toNat < ns.length := by omega
  have ge : atI (ns.map V.int) k = some (.int ns[k.toNat]) := by
    have := atI_nat (xs := ns.map V.int) (j := k.toNat) (v := .int ns[k.toNat]) (by rw [List.getElem?_map, List.getElem?_eq_getElem hk]; rfl)
    rw [show ((k.toNat : Nat) : Int) = k by omega] at this
    exact this
  exact ⟨_, rfl, _, rfl, a, _, _, _, rfl, rfl, hS, ge, q _⟩
abbrev s_law_word_of : Stmt := top 22
theorem sc_law_word_of : FnScope ["e", "kinds"] ["e"] (defScope s_law_word_of) := ⟨rfl, rfl, rfl, by decide +kernel, rfl, by decide +kernel, by decide +kernel⟩
set_option maxHeartbeats 4000000 in
theorem ok_law_word_of (S : Src K mg "_law_word_of" s_law_word_of) (M : Mo K mg c) : DefH P w K mg base 1 "_law_word_of" ["e"] (sp_law_word_of K c) := by
  refine S.isH (fun _ _ _ _ _ _ us hl => match us, hl with | [_], _ => rfl) fun f fd F => ?_
  refine F.okH sc_law_word_of (fun vs H Q E h => ?_) (fun cdv A outer s H vs Q hr h => ?_)
  · obtain ⟨ea, D, j, rfl, _⟩ := h
    rfl
  obtain ⟨ea, D, j, rfl, hE, kd, q⟩ := h
  refine ⟨_, (pss_cons (ps_set (i := 1) sc_law_word_of.nd rfl (Or.inl rfl) (pe_lst (pa_cons (pe_callB call_isiE (by rfl) M.isinstance boot_isinstance (pa_cons (pv 0) (pa_cons (pe_glob (v := .ref c.NoLight) (by rfl) M.g_NoLight rfl) pa_nil))) (pa_cons (pe_callB call_isiE (by rfl) M.isinstance boot_isinstance (pa_cons (pv 0) (pa_cons (pe_glob (v := .ref c.NoBook) (by rfl) M.g_NoBook rfl) pa_nil))) (pa_cons (pe_callB call_isiE (by rfl) M.isinstance boot_isinstance (pa_cons (pv 0) (pa_cons (pe_glob (v := .ref c.NoSight) (by rfl) M.g_NoSight rfl) pa_nil))) (pa_cons (pe_callB call_isiE (by rfl) M.isinstance boot_isinstance (pa_cons (pv 0) (pa_cons (pe_glob (v := .ref c.NoFit) (by rfl) M.g_NoFit rfl) pa_nil))) pa_nil))))))
    (pss_cons (ps_set (i := 1) sc_law_word_of.nd rfl (Or.inl rfl) (pe_op op_cat (pv 1) (pe_lst (pa_cons (pe_callB call_isiE (by rfl) M.isinstance boot_isinstance (pa_cons (pv 0) (pa_cons (pe_glob (v := .ref c.TooLong) (by rfl) M.g_TooLong rfl) pa_nil))) (pa_cons (pe_callB call_isiE (by rfl) M.isinstance boot_isinstance (pa_cons (pv 0) (pa_cons (pe_glob (v := .ref c.NoNote) (by rfl) M.g_NoNote rfl) pa_nil))) pa_nil)))))
    (pss_cons (ps_if (pw_or (pt_cmpR op_ne (pe_bm PySem.F.plainAttrs_list PySem.F.slot_list_count PySem.F.type_list_count mt_countB (pv 1) (pa_cons pe_bl pa_nil)) pe_int (nomark _)) (pw_or1 (pt_not (pt_val (pe_callB call_isiE (by rfl) M.isinstance boot_isinstance (pa_cons (pv 0) (pa_cons (pe_bltn (v := .ty "ValueError") (by rfl) M.ValueError boot_ValueError rfl) pa_nil))))))).pt (pss_one (ps_ret (pe_strT [111, 116, 104, 101, 114]))) pss_nil)
    (pss_one (ps_ret (pe_ix ix_list (pe_lst (pa_cons (pe_strT [108, 105, 103, 104, 116]) (pa_cons (pe_strT [98, 111, 111, 107]) (pa_cons (pe_strT [115, 105, 103, 104, 116]) (pa_cons (pe_strT [102, 105, 116]) (pa_cons (pe_strT [108, 111, 110, 103]) (pa_cons (pe_strT [110, 111, 116, 101]) pa_nil))))))) (pe_bm PySem.F.plainAttrs_list PySem.F.slot_list_index PySem.F.type_list_index mt_indexB (pv 1) (pa_cons pe_bl pa_nil)) (fun _ _ => rfl))))))), ?_⟩
  refine ⟨_, rfl, ea, D, _, _, _, rfl, hE, kd.pl, rfl, kd.k0, _, rfl, ea, D, _, _, _, rfl, hE, kd.pl, rfl, kd.k1, _, rfl, ea, D, _, _, _, rfl, hE, kd.pl, rfl, kd.k2, _, rfl, ea, D, _, _, _, rfl, hE, kd.pl, rfl, kd.k3, (by show 4 ≤ sizeLine; decide), fun p1 hp1 => ?_⟩
  have g1 := same_new hp1 (.lst [.bl (decide (j = 0)), .bl (decide (j = 1)), .bl (decide (j = 2)), .bl (decide (j = 3))])
  have hE1 := g1 _ _ hE
  refine ⟨_, rfl, _, rfl, ea, D, _, _, _, rfl, hE1, kd.pl, rfl, kd.k4, _, rfl, ea, D, _, _, _, rfl, hE1, kd.pl, rfl, kd.k5, (by show 2 ≤ sizeLine; decide), fun p2 hp2 => ?_⟩
  refine ⟨p1, p2, _, _, rfl, rfl, by rw [upd_ne (ne_of_none upd_same hp2)]; exact upd_same, upd_same, (by show 4 + 2 ≤ sizeLine; decide), fun p3 hp3 => ?_⟩
  have g3 := (g1.trans (same_new hp2 (.lst [.bl (decide (j = 4)), .bl (decide (j = 5))]))).trans (same_new hp3 (.lst ((kinds6 j).map V.bl)))
  have q3 : upd (upd (upd H p1 (.lst [.bl (decide (j = 0)), .bl (decide (j = 1)), .bl (decide (j = 2)), .bl (decide (j = 3))])) p2 (.lst [.bl (decide (j = 4)), .bl (decide (j = 5))])) p3 (.lst ((kinds6 j).map V.bl)) p3 = some (.lst ((kinds6 j).map V.bl)) := upd_same
  have hE3 := g3 _ _ hE
  have eq3 : upd (upd (upd H p1 (.lst [.bl (decide (j = 0)), .bl (decide (j = 1)), .bl (decide (j = 2)), .bl (decide (j = 3))])) p2 (.lst [.bl (decide (j = 4)), .bl (decide (j = 5))])) p3 (.lst ([V.bl (decide (j = 0)), .bl (decide (j = 1)), .bl (decide (j = 2)), .bl (decide (j = 3))] ++ [.bl (decide (j = 4)), .bl (decide (j = 5))])) = upd (upd (upd H p1 (.lst [.bl (decide (j = 0)), .bl (decide (j = 1)), .bl (decide (j = 2)), .bl (decide (j = 3))])) p2 (.lst [.bl (decide (j = 4)), .bl (decide (j = 5))])) p3 (.lst ((kinds6 j).map V.bl)) := rfl
  rw [eq3]
  generalize upd (upd (upd H p1 (.lst [.bl (decide (j = 0)), .bl (decide (j = 1)), .bl (decide (j = 2)), .bl (decide (j = 3))])) p2 (.lst [.bl (decide (j = 4)), .bl (decide (j = 5))])) p3 (.lst ((kinds6 j).map V.bl)) = H3 at g3 q3 hE3 ⊢
  refine ⟨_, rfl, .inl ⟨rfl, _, SqL.of q3⟩, p3, kinds6 j, true, rfl, rfl, q3, rfl, _, rfl, ifn_no (by rw [kinds_count kd.lt]; rfl) ?_⟩
  refine ⟨_, rfl, ea, D, _, _, _, rfl, hE3, kd.pl, rfl, kd.ve, _, rfl, iteF ?_⟩
  refine ⟨(by show 6 ≤ sizeLine; decide), fun p4 hp4 => ?_⟩
  have q4 := same_new hp4 (.lst (words.map strT)) _ _ q3
  refine ⟨_, rfl, .inl ⟨rfl, _, SqL.of q4⟩, p3, kinds6 j, true, j, rfl, rfl, q4, (by show 6 ≤ 1000; decide), kinds_at kd.lt, kinds_no kd.lt, p4, _, _, _, rfl, rfl, SqL.of upd_same, word_at kd.lt, ?_⟩
  exact q _ (g3.trans (same_new hp4 _))
abbrev s_law_light_by : Stmt := top 23
theorem sc_law_light_by : FnScope ["head", "cell", "size", "stir", "row", "k", "piece"] ["head", "cell"] (defScope s_law_light_by) := ⟨rfl, rfl, rfl, by decide +kernel, rfl, by decide +kernel, by decide +kernel⟩
set_option maxHeartbeats 4000000 in
theorem ok_law_light_by (S : Src K mg "_law_light_by" s_law_light_by) (M : Mo K mg c) : Def P w K mg base 1 "_law_light_by" ["head", "cell"] (sp_law_light_by K) := by
  refine S.is (fun _ _ _ _ _ _ us hl => match us, hl with | [_, _], _ => rfl) fun f fd F => ?_
  refine F.ok sc_law_light_by (fun vs H Q E h => ?_) (fun cdv A outer s H vs Q E hr h => ?_)
  · obtain ⟨h, c, rfl, _⟩ := h
    rfl
  obtain ⟨hd, c, rfl, q⟩ := h
  refine ⟨_, (pss_cons (ps_set (i := 2) sc_law_light_by.nd rfl (Or.inl rfl) (pe_op op_add pe_int (pe_op op_mod (pv 0) pe_int)))
    (pss_cons (ps_set (i := 3) sc_law_light_by.nd rfl (Or.inl rfl) (pe_op op_add (pe_op op_mod (pv 1) pe_int) pe_int))
    (pss_cons (ps_set (i := 4) sc_law_light_by.nd rfl (Or.inl rfl) (pe_strT []))
    (pss_cons (ps_for PassesOwn.never rfl (pi_range1 (by rfl) M.range (pa_cons (pv 2) pa_nil)) (pg_name (i := 5) sc_law_light_by.nd rfl (Or.inl rfl)) (pss_cons (ps_set (i := 3) sc_law_light_by.nd rfl (Or.inl rfl) (pe_op op_mod (pe_op op_add (pe_op op_mul (pv 3) pe_int) (pe_op op_mul pe_int (pv 5))) pe_int))
    (pss_one (ps_set (i := 4) sc_law_light_by.nd rfl (Or.inl rfl) (pe_op op_addT (pv 4) (pe_ix ix_T (pe_strT [46, 111]) (pe_op op_mod (pe_op op_fdiv (pe_op op_mod (pe_op op_mul (pv 3) (pv 3)) pe_int) pe_int) pe_int) (fun _ _ => rfl)))))))
    (pss_cons (ps_set (i := 6) sc_law_light_by.nd rfl (Or.inl rfl) (pe_op op_add pe_int (pe_op op_mod (pe_op op_fdiv (pv 0) pe_int) pe_int)))
    (pss_cons (ps_if (pw_and (pt_cmpR op_eq (pe_op op_mod (pv 2) (pv 6)) pe_int (nomark _)) (pw_and1 (pt_cmpR op_eq (pe_op op_mod (pe_op op_fdiv (pv 0) pe_int) pe_int) pe_int (nomark _)))).pt (pss_one (ps_set (i := 4) sc_law_light_by.nd rfl (Or.inl rfl) (pe_op op_mulT (pe_slice sl_str (pv 4) po_none (po_some (pv 6))) (pe_op op_fdiv (pv 2) (pv 6))))) pss_nil)
    (pss_one (ps_ret (pv 4))))))))), ?_⟩
  refine ⟨_, rfl, _, _, rfl, rfl, (by show (0 : Int) < _; omega), _, _, rfl, rfl, _, rfl, _, _, rfl, rfl, (by show (0 : Int) < _; omega), _, _, rfl, rfl, ?_⟩
  have n0 := Int.emod_nonneg hd (show (12 : Int) ≠ 0 by decide)
  have n1 := Int.emod_lt_of_pos hd (show (0 : Int) < 12 by decide)
  have s0 := Int.emod_nonneg c (show (2147483647 : Int) ≠ 0 by decide)
  have s1 := Int.emod_lt_of_pos c (show (0 : Int) < 2147483647 by decide)
  dsimp only
  generalize hn : 1 + hd % 12 = n
  have hn0 : 1 ≤ n := by omega
  have hn1 : n ≤ 12 := by omega
  refine ⟨_, rfl, _, rfl, by omega, by omega, ?_⟩
  refine for_range (lo := 0) (n := n.toNat) (fun i σ H' => H' = H ∧ ∃ st l u, σ = [some (.int hd), some (.int c), some (.int n), some (.int st), some (.str (T l)), u, none] ∧ 0 ≤ st ∧ st < 2147483658 ∧ l.length = i ∧ ∀ x ∈ l, x = 46 ∨ x = 111) ?hinit ?_ ?_
  case hinit => exact ⟨rfl, _, [], _, rfl, by omega, by omega, rfl, fun x hx => nomatch hx⟩
  · rintro i σ H' hi ⟨rfl, st, l, u, rfl, t0, t1, hl, hs⟩
    refine ⟨_, rfl, _, _, rfl, rfl, .inl ⟨by omega, by omega⟩, _, rfl, _, _, rfl, rfl, .inl ⟨by decide, by decide⟩, _, _, rfl, rfl, _, _, rfl, rfl, (by show (0 : Int) < _; omega), ?_⟩
    have u0 := Int.emod_nonneg (st * 48271 + 7 * (0 + (i : Int))) (show (2147483647 : Int) ≠ 0 by decide)
    have u1 := Int.emod_lt_of_pos (st * 48271 + 7 * (0 + (i : Int))) (show (0 : Int) < 2147483647 by decide)
    dsimp only
    generalize (st * 48271 + 7 * (0 + (i : Int))) % 2147483647 = st' at u0 u1 ⊢
    refine ⟨_, rfl, _, rfl, _, rfl, _, _, rfl, rfl, .inl ⟨by omega, by omega⟩, _, _, rfl, rfl, (by show (0 : Int) < _; omega), _, _, rfl, rfl, ⟨by decide, by decide⟩, _, _, rfl, rfl, (by show (0 : Int) < _; omega), ix2 fun cc hcc => ?_⟩
    refine ⟨_, _, rfl, rfl, sz (by show l.length + 1 ≤ 1000; omega), rfl, st', l ++ [cc], _, rfl, u0, by omega, by rw [List.length_append, hl]; rfl, fun x hx => ?_⟩
    rcases List.mem_append.mp hx with z | z
    · exact hs x z
    · rw [List.mem_singleton.mp z]; exact hcc
  · rintro σ H' ⟨rfl, st, l, u, rfl, t0, t1, hl, hs⟩
    refine ⟨_, rfl, _, _, rfl, rfl, ⟨by decide, by decide⟩, _, _, rfl, rfl, (by show (0 : Int) < _; omega), _, _, rfl, rfl, ?_⟩
    have p0 := Int.emod_nonneg (hd / 12) (show (6 : Int) ≠ 0 by decide)
    have p1 := Int.emod_lt_of_pos (hd / 12) (show (0 : Int) < 6 by decide)
    dsimp only
    generalize hp : 1 + hd / 12 % 6 = p
    have hp0 : 1 ≤ p := by omega
    have hp1 : p ≤ 6 := by omega
    have lit0 : Lit l := ⟨by omega, by omega, hs⟩
    refine ⟨_, rfl, _, rfl, _, _, rfl, rfl, (by show (0 : Int) < p; omega), rfl, _, rfl, if_dec (fun c1 => ?_) (fun c1 => iteF ⟨_, rfl, q l lit0⟩)⟩
    refine ⟨_, rfl, _, _, rfl, rfl, ⟨by decide, by decide⟩, _, _, rfl, rfl, (by show (0 : Int) < _; omega), rfl, _, rfl, if_dec (fun c2 => ?_) (fun c2 => ⟨_, rfl, q l lit0⟩)⟩
    have c3 : n % p = 0 := by injection c1
    have hdv : 0 ≤ n / p := Int.ediv_nonneg (by omega) (by omega)
    have hdv2 : n / p ≤ n := Int.ediv_le_self p (by omega)
    refine ⟨_, rfl, _, rfl, _, rfl, _, rfl, sz (by omega), _, rfl, _, rfl, _, _, rfl, rfl, ⟨(by show (0 : Int) < p; omega), by omega⟩, _, _, rfl, rfl, hdv, by omega, Nat.le_trans (cutT_le _ _ _) (by omega), _, rfl, q _ ?_⟩
    have ep : p = ((p.toNat : Nat) : Int) := by omega
    have en : n = ((n.toNat : Nat) : Int) := by omega
    have hle : p.toNat ≤ l.length := by
      have : p.toNat ≤ n.toNat := by
        refine Nat.le_of_dvd (by omega) (Nat.dvd_of_mod_eq_zero ?_)
        have : ((n.toNat % p.toNat : Nat) : Int) = 0 := by rw [Int.natCast_emod, ← ep, ← en]; exact c3
        omega
      omega
    have ecut : cutT l none (some p) = l.take p.toNat := by
      have := cutT_to hle
      rw [← ep] at this
      exact this
    have ediv : (n / p).toNat = n.toNat / p.toNat := by
      rw [ep, en, ← Int.natCast_ediv, Int.toNat_natCast, Int.toNat_natCast, Int.toNat_natCast]
    rw [ecut, ediv]
    refine Lit.rep hl hs (by omega) (by omega) (by omega) ?_
    have : ((n.toNat % p.toNat : Nat) : Int) = 0 := by rw [Int.natCast_emod, ← ep, ← en]; exact c3
    omega
abbrev s_law_book_by : Stmt := top 24
theorem sc_law_book_by : FnScope ["script", "book", "k", "head", "light", "cut"] ["script"] (defScope s_law_book_by) := ⟨rfl, rfl, rfl, by decide +kernel, rfl, by decide +kernel, by decide +kernel⟩
set_option maxHeartbeats 4000000 in
theorem ok_law_book_by (S : Src K mg "_law_book_by" s_law_book_by) (M : Mo K mg c) (D_law_cell_at : Def P w K mg base 1 "_law_cell_at" ["script", "k"] (sp_law_cell_at K)) (D_law_light_by : Def P w K mg base 1 "_law_light_by" ["head", "cell"] (sp_law_light_by K)) : Def P w K mg base 2 "_law_book_by" ["script"] (sp_law_book_by K) := by
  refine S.is (fun _ _ _ _ _ _ us hl => match us, hl with | [_], _ => rfl) fun f fd F => ?_
  refine F.ok sc_law_book_by (fun vs H Q E h => ?_) (fun cdv A outer s H vs Q E hr h => ?_)
  · obtain ⟨a, ns, rfl, _⟩ := h
    rfl
  obtain ⟨a, ns, rfl, hS, q⟩ := h
  refine ⟨_, (pss_cons (ps_set (i := 1) sc_law_book_by.nd rfl (Or.inl rfl) (pe_lst pa_nil))
    (pss_cons (ps_for PassesOwn.never rfl (pi_range1 (by rfl) M.range (pa_cons (pe_op op_add pe_int (pe_op op_mod (pe_callD D_law_cell_at hr (by rfl) (pa_cons (pv 0) (pa_cons pe_int pa_nil))) pe_int)) pa_nil)) (pg_name (i := 2) sc_law_book_by.nd rfl (Or.inl rfl)) (pss_cons (ps_set (i := 3) sc_law_book_by.nd rfl (Or.inl rfl) (pe_callD D_law_cell_at hr (by rfl) (pa_cons (pv 0) (pa_cons (pe_op op_add pe_int (pe_op op_mul pe_int (pv 2))) pa_nil))))
    (pss_cons (ps_set (i := 4) sc_law_book_by.nd rfl (Or.inl rfl) (pe_callD D_law_light_by hr (by rfl) (pa_cons (pv 3) (pa_cons (pe_callD D_law_cell_at hr (by rfl) (pa_cons (pv 0) (pa_cons (pe_op op_add pe_int (pe_op op_mul pe_int (pv 2))) pa_nil))) pa_nil))))
    (pss_via (ps_if (pw_and (pt_cmpR op_gt (pv 2) pe_int (nomark _)) (pw_and1 (pt_cmpR op_eq (pe_op op_mod (pe_op op_fdiv (pv 3) pe_int) pe_int) pe_int (nomark _)))).pt (pss_cons (ps_set (i := 4) sc_law_book_by.nd rfl (Or.inl rfl) (pe_ix ix_list (pv 1) (pe_op op_mod (pe_op op_fdiv (pv 3) pe_int) (pv 2)) (fun _ _ => rfl)))
    (pss_cons (ps_set (i := 5) sc_law_book_by.nd rfl (Or.inl rfl) (pe_op op_mod (pe_op op_fdiv (pv 3) pe_int) (pe_callB call_lenT (by rfl) M.len PySem.boot_len (pa_cons (pv 4) pa_nil))))
    (pss_cons (ps_set (i := 4) sc_law_book_by.nd rfl (Or.inl rfl) (pe_op op_addT (pe_slice sl_str (pv 4) (po_some (pv 5)) po_none) (pe_slice sl_str (pv 4) po_none (po_some (pv 5)))))
    (pss_one (ps_if (pw_and (pt_cmpR op_lt (pe_callB call_lenT (by rfl) M.len PySem.boot_len (pa_cons (pv 4) pa_nil)) pe_int (nomark _)) (pw_and1 (pt_cmpR op_eq (pe_op op_mod (pe_op op_fdiv (pv 3) pe_int) pe_int) pe_int (nomark _)))).pt (pss_one (ps_set (i := 4) sc_law_book_by.nd rfl (Or.inl rfl) (pe_op op_addT (pv 4) (pv 4)))) pss_nil))))) pss_nil)
    (pss_one (ps_expr (pe_bm PySem.F.plainAttrs_list PySem.F.slot_list_append PySem.F.type_list_append mt_append (pv 1) (pa_cons (pv 4) pa_nil))))))))
    (pss_one (ps_ret (pv 1))))), ?_⟩
  refine ⟨(by show 0 ≤ sizeLine; decide), fun p hp => ?_⟩
  have g0 : ∀ o, Same H (upd H p o) := fun o => same_new hp o
  refine ⟨_, rfl, a, ns, 0, rfl, (g0 _).seq hS, by decide, fun i0 => ⟨_, _, rfl, rfl, (by show (0 : Int) < _; omega), _, _, rfl, rfl, ?_⟩⟩
  have n0 := Int.emod_nonneg i0 (show (5 : Int) ≠ 0 by decide)
  have n1 := Int.emod_lt_of_pos i0 (show (0 : Int) < 5 by decide)
  refine ⟨_, rfl, by omega, by omega, ?_⟩
  refine for_range (lo := 0) (n := (1 + i0 % 5).toNat) (fun i σ H' => ∃ bk : List (List Nat), H' = upd H p (.lst (bk.map strT)) ∧ bk.length = i ∧ (∀ l ∈ bk, Lit l) ∧ ∃ u1 u2 u3 u4, σ = [some (.ref a), some (.ref p), u1, u2, u3, u4]) ?hinit ?_ ?_
  case hinit => exact ⟨[], rfl, rfl, (fun l z => nomatch z), _, _, _, _, rfl⟩
  · rintro i σ H' hi ⟨bk, rfl, hlen, hlit, u1, u2, u3, u4, rfl⟩
    rw [Int.zero_add]
    have hS' := (g0 (.lst (bk.map strT))).seq hS
    refine ⟨_, rfl, _, rfl, _, _, rfl, rfl, .inl ⟨by decide, by decide⟩, _, _, rfl, rfl, a, ns, _, rfl, hS', by omega, fun hd => ?_⟩
    refine ⟨_, rfl, _, rfl, _, rfl, _, _, rfl, rfl, .inl ⟨by decide, by decide⟩, _, _, rfl, rfl, a, ns, _, rfl, hS', by omega, fun cl => ⟨_, _, rfl, fun l0 hl0 => ?_⟩⟩
    refine ⟨fun σ' H' => H' = upd H p (.lst (bk.map strT)) ∧ ∃ l u, Lit l ∧ σ' = [some (.ref a), some (.ref p), some (.int (i : Int)), some (.int hd), some (.str (T l)), u], ?_, ?_⟩
    · refine ⟨_, rfl, _, _, rfl, rfl, _, rfl, if_dec (fun c1 => ?_) (fun c1 => iteF ⟨rfl, l0, _, hl0, rfl⟩)⟩
      refine ⟨_, rfl, _, _, rfl, rfl, ⟨by decide, by decide⟩, _, _, rfl, rfl, (by show (0 : Int) < _; omega), rfl, _, rfl, if_dec (fun c2 => ?_) (fun c2 => ⟨rfl, l0, _, hl0, rfl⟩)⟩
      have j0 := Int.emod_nonneg (hd / 576) (show (i : Int) ≠ 0 by omega)
      have j1 := Int.emod_lt_of_pos (hd / 576) (show (0 : Int) < (i : Int) by omega)
      refine ⟨_, rfl, _, rfl, _, _, rfl, rfl, ⟨by decide, by decide⟩, _, rfl, _, _, rfl, rfl, (by show (0 : Int) < (i : Int); omega), p, _, _, _, rfl, rfl, SqL.of upd_same, strT_atI (bk := bk) j0 (by omega), ?_⟩
      have hb : Lit (nth bk (hd / 576 % (i : Int)).toNat) := hlit _ (nth_mem (by omega))
      dsimp only
      generalize nth bk (hd / 576 % (i : Int)).toNat = l at hb ⊢
      have b1 := hb.1
      have b2 := hb.2.1
      have k0 := Int.emod_nonneg (hd / 3000) (show (l.length : Int) ≠ 0 by omega)
      have k1 := Int.emod_lt_of_pos (hd / 3000) (show (0 : Int) < (l.length : Int) by omega)
      refine ⟨_, rfl, _, _, rfl, rfl, ⟨by decide, by decide⟩, _, rfl, _, rfl, sz (by omega), _, _, rfl, rfl, (by show (0 : Int) < (l.length : Int); omega), ?_⟩
      dsimp only
      generalize hd / 3000 % (l.length : Int) = cut at k0 k1 ⊢
      obtain ⟨t, rfl⟩ : ∃ t : Nat, cut = (t : Int) := ⟨cut.toNat, by omega⟩
      refine ⟨_, rfl, _, rfl, _, rfl, _, rfl, sz (by omega), _, rfl, _, rfl, _, rfl, _, rfl, sz (by omega), _, _, rfl, rfl, sz (Nat.le_trans (Nat.add_le_add (cutT_le _ _ _) (cutT_le _ _ _)) (by omega)), ?_⟩
      rw [cutT_to (by omega), cutT_from (by omega)]
      have hr2 := hb.rot (m := t)
      dsimp only
      generalize l.drop t ++ l.take t = r at hr2 ⊢
      have r2 := hr2.2.1
      refine ⟨_, rfl, _, rfl, sz (by omega), _, _, rfl, rfl, _, rfl, if_dec (fun c3 => ?_) (fun c3 => iteF ⟨rfl, r, _, hr2, rfl⟩)⟩
      refine ⟨_, rfl, _, _, rfl, rfl, ⟨by decide, by decide⟩, _, _, rfl, rfl, (by show (0 : Int) < _; omega), rfl, _, rfl, if_dec (fun c4 => ?_) (fun c4 => ⟨rfl, r, _, hr2, rfl⟩)⟩
      exact ⟨_, rfl, _, rfl, _, _, rfl, rfl, sz (by omega), rfl, _, _, hr2.twice (by omega), rfl⟩
    · rintro σ' H' ⟨rfl, l, u, hl, rfl⟩
      refine ⟨_, rfl, .inl ⟨rfl, _, SqL.of upd_same⟩, _, rfl, p, _, _, rfl, rfl, upd_same, ?_, ?_⟩
      · rw [List.length_map]; exact small1000 (by omega)
      · rw [upd_upd]
        refine ⟨bk ++ [l], by rw [List.map_append]; rfl, by rw [List.length_append, hlen]; rfl, fun x hx => ?_, _, _, _, _, rfl⟩
        rcases List.mem_append.mp hx with z | z
        · exact hlit x z
        · rw [List.mem_singleton.mp z]; exact hl
  · rintro σ H' ⟨bk, rfl, hlen, hlit, u1, u2, u3, u4, rfl⟩
    exact ⟨_, rfl, q bk p _ ⟨by omega, by omega, hlit⟩ (g0 _) hp upd_same⟩
abbrev s_law_spoilt : Stmt := top 25
theorem sc_law_spoilt : FnScope ["text", "kind", "cell", "at", "sign"] ["text", "kind", "cell"] (defScope s_law_spoilt) := ⟨rfl, rfl, rfl, by decide +kernel, rfl, by decide +kernel, by decide +kernel⟩
set_option maxHeartbeats 4000000 in
theorem ok_law_spoilt (S : Src K mg "_law_spoilt" s_law_spoilt) (M : Mo K mg c) : Def P w K mg base 1 "_law_spoilt" ["text", "kind", "cell"] (sp_spoilt16 K) := by
  refine S.is (fun _ _ _ _ _ _ us hl => match us, hl with | [_, _, _], _ => rfl) fun f fd F => ?_
  refine F.ok sc_law_spoilt (fun vs H Q E h => ?_) (fun cdv A outer s H vs Q E hr h => ?_)
  · obtain ⟨x, k, cell, rfl, _⟩ := h
    rfl
  obtain ⟨x, k, cell, rfl, hx, c0, q⟩ := h
  refine ⟨_, (pss_cons (ps_set (i := 3) sc_law_spoilt.nd rfl (Or.inl rfl) (pe_op op_mod (pv 2) (pe_op op_add (pe_callB call_lenT (by rfl) M.len PySem.boot_len (pa_cons (pv 0) pa_nil)) pe_int)))
    (pss_cons (ps_set (i := 4) sc_law_spoilt.nd rfl (Or.inl rfl) (pe_ix ix_list (pe_lst (pa_cons (pe_strT [79]) (pa_cons (pe_strT [120]) (pa_cons (pe_strT [48]) (pa_cons (pe_strT [32]) (pa_cons (pe_strT [9]) (pa_cons (pe_strT [10]) (pa_cons (pe_strT [44]) (pa_cons (pe_strT [47]) (pa_cons (pe_strT [111]) (pa_cons (pe_strT [46]) pa_nil))))))))))) (pe_op op_mod (pe_op op_fdiv (pv 2) pe_int) pe_int) (fun _ _ => rfl)))
    (pss_cons (ps_if (pt_cmpR op_eq (pv 1) pe_int (nomark _)) (pss_one (ps_ret (pe_op op_addT (pe_op op_addT (pe_slice sl_str (pv 0) po_none (po_some (pv 3))) (pv 4)) (pe_slice sl_str (pv 0) (po_some (pv 3)) po_none)))) pss_nil)
    (pss_cons (ps_if (pt_cmpR op_eq (pv 1) pe_int (nomark _)) (pss_one (ps_ret (pe_op op_addT (pe_op op_addT (pe_slice sl_str (pv 0) po_none (po_some (pv 3))) (pv 4)) (pe_slice sl_str (pv 0) (po_some (pe_op op_add (pv 3) pe_int)) po_none)))) pss_nil)
    (pss_cons (ps_if (pt_cmpR op_eq (pv 1) pe_int (nomark _)) (pss_one (ps_ret (pe_op op_addT (pe_strT [47]) (pv 0)))) pss_nil)
    (pss_cons (ps_if (pt_cmpR op_eq (pv 1) pe_int (nomark _)) (pss_one (ps_ret (pe_op op_addT (pv 0) (pe_strT [47])))) pss_nil)
    (pss_cons (ps_if (pt_cmpR op_eq (pv 1) pe_int (nomark _)) (pss_one (ps_ret (pe_op op_addT (pv 0) (pe_op op_mulT (pe_strT [46]) (pe_op op_add pe_int (pe_op op_mod (pe_op op_fdiv (pv 2) pe_int) pe_int)))))) pss_nil)
    (pss_cons (ps_if (pt_cmpR op_eq (pv 1) pe_int (nomark _)) (pss_one (ps_ret (pe_op op_addT (pv 0) (pe_strT [47, 111, 47, 46, 47, 111, 111, 47, 111, 46, 47, 46, 111])))) pss_nil)
    (pss_one (ps_ret (pe_strT []))))))))))), ?_⟩
  refine ⟨_, rfl, _, rfl, _, rfl, sz (by omega), _, _, rfl, rfl, _, _, rfl, rfl, (by show (0 : Int) < (x.length : Int) + 1; omega), ?_⟩
  refine ⟨(by show 10 ≤ sizeLine; decide), fun p hp => ?_⟩
  have k0 := Int.emod_nonneg (cell / 61) (show (10 : Int) ≠ 0 by decide)
  have k1 := Int.emod_lt_of_pos (cell / 61) (show (0 : Int) < 10 by decide)
  have pick : ∃ ch : Nat, atI [sign1 79, sign1 120, sign1 48, sign1 32, sign1 9, sign1 10, sign1 44, sign1 47, sign1 111, sign1 46] (cell / 61 % 10) = some (sign1 ch) := by
    generalize cell / 61 % 10 = i at k0 k1
    rcases (show i = 0 ∨ i = 1 ∨ i = 2 ∨ i = 3 ∨ i = 4 ∨ i = 5 ∨ i = 6 ∨ i = 7 ∨ i = 8 ∨ i = 9 by omega) with z | z | z | z | z | z | z | z | z | z <;> subst z <;> exact ⟨_, rfl⟩
  obtain ⟨ch, hpick⟩ := pick
  have gp := same_new hp (.lst [sign1 79, sign1 120, sign1 48, sign1 32, sign1 9, sign1 10, sign1 44, sign1 47, sign1 111, sign1 46])
  refine ⟨_, rfl, _, _, rfl, rfl, ⟨by decide, by decide⟩, _, _, rfl, rfl, (by show (0 : Int) < _; omega), p, _, _, _, rfl, rfl, SqL.of upd_same, hpick, ?_⟩
  dsimp only
  generalize cell % ((x.length : Int) + 1) = at_
  have u1 := cutT_le x none (some at_)
  have u2 := cutT_le x (some at_) none
  have u3 := cutT_le x (some (at_ + 1)) none
  refine ⟨_, rfl, rfl, _, rfl, if_dec (fun c1 => ?_) (fun c1 => ?_)⟩
  · refine ⟨_, rfl, _, rfl, _, rfl, _, rfl, sz (by omega), _, rfl, _, _, rfl, rfl, sz (by simp only [List.length_cons, List.length_nil]; omega), ?_⟩
    refine ⟨_, rfl, _, rfl, _, rfl, _, rfl, sz (by omega), _, _, rfl, rfl, sz (by simp only [List.length_append, List.length_cons, List.length_nil]; omega), ?_⟩
    exact q _ _ gp (by simp only [List.length_append, List.length_cons, List.length_nil]; omega)
  refine ⟨_, rfl, rfl, _, rfl, if_dec (fun c2 => ?_) (fun c2 => ?_)⟩
  · refine ⟨_, rfl, _, rfl, _, rfl, _, rfl, sz (by omega), _, rfl, _, _, rfl, rfl, sz (by simp only [List.length_cons, List.length_nil]; omega), ?_⟩
    refine ⟨_, rfl, _, rfl, _, _, rfl, rfl, _, rfl, _, rfl, sz (by omega), _, _, rfl, rfl, sz (by simp only [List.length_append, List.length_cons, List.length_nil]; omega), ?_⟩
    exact q _ _ gp (by simp only [List.length_append, List.length_cons, List.length_nil]; omega)
  refine ⟨_, rfl, rfl, _, rfl, if_dec (fun c3 => ?_) (fun c3 => ?_)⟩
  · exact ⟨_, rfl, _, _, rfl, rfl, sz (by simp only [List.length_cons, List.length_nil]; omega), q _ _ gp (by simp only [List.length_append, List.length_cons, List.length_nil]; omega)⟩
  refine ⟨_, rfl, rfl, _, rfl, if_dec (fun c4 => ?_) (fun c4 => ?_)⟩
  · exact ⟨_, rfl, _, _, rfl, rfl, sz (by simp only [List.length_cons, List.length_nil]; omega), q _ _ gp (by simp only [List.length_append, List.length_cons, List.length_nil]; omega)⟩
  refine ⟨_, rfl, rfl, _, rfl, if_dec (fun c5 => ?_) (fun c5 => ?_)⟩
  · have m0 := Int.emod_nonneg (cell / 61) (show (13 : Int) ≠ 0 by decide)
    have m1 := Int.emod_lt_of_pos (cell / 61) (show (0 : Int) < 13 by decide)
    have rl := rep_len (1 + cell / 61 % 13).toNat [46]
    unfold Lamp.rep at rl
    simp only [List.length_cons, List.length_nil] at rl
    refine ⟨_, rfl, _, rfl, _, _, rfl, rfl, ⟨by decide, by decide⟩, _, _, rfl, rfl, (by show (0 : Int) < _; omega), _, _, rfl, rfl, _, _, rfl, rfl, by omega, by omega, by decide, _, _, rfl, rfl, sz (by omega), q _ _ gp ?_⟩
    rw [List.length_append]
    omega
  refine ⟨_, rfl, rfl, _, rfl, if_dec (fun c6 => ?_) (fun c6 => ?_)⟩
  · exact ⟨_, rfl, _, _, rfl, rfl, sz (by simp only [List.length_cons, List.length_nil]; omega), q _ _ gp (by simp only [List.length_append, List.length_cons, List.length_nil]; omega)⟩
  exact q [] _ gp (by decide)
abbrev s_law_due : Stmt := top 26
theorem sc_law_due : FnScope ["text", "lights", "sign", "light"] ["text"] (defScope s_law_due) := ⟨rfl, rfl, rfl, by decide +kernel, rfl, by decide +kernel, by decide +kernel⟩
set_option maxHeartbeats 4000000 in
theorem ok_law_due (S : Src K mg "_law_due" s_law_due) (M : Mo K mg c) : Def P w K mg base 1 "_law_due" ["text"] (sp_due16 K) := by
  refine S.is (fun _ _ _ _ _ _ us hl => match us, hl with | [_], _ => rfl) fun f fd F => ?_
  refine F.ok sc_law_due (fun vs H Q E h => ?_) (fun cdv A outer s H vs Q E hr h => ?_)
  · obtain ⟨x, bk, rfl, _⟩ := h
    rfl
  obtain ⟨x, bk, rfl, hx, hs, q1, q2⟩ := h
  refine ⟨_, (pss_cons (ps_set (i := 1) sc_law_due.nd rfl (Or.inl rfl) (pe_lst (pa_cons (pe_strT []) pa_nil)))
    (pss_cons (ps_for PassesOwn.never rfl (pi_str (pv 0)) (pg_name (i := 2) sc_law_due.nd rfl (Or.inl rfl)) (pss_one (ps_if (pt_cmpR op_eq (pv 2) (pe_strT [47]) (nomark _)) (pss_one (ps_expr (pe_bm PySem.F.plainAttrs_list PySem.F.slot_list_append PySem.F.type_list_append mt_append (pv 1) (pa_cons (pe_strT []) pa_nil)))) (pss_one (ps_asg (pe_op op_addT (pe_ix ix_list (pv 1) (pe_un un_neg pe_int) (fun _ _ => rfl)) (pv 2)) (pg_sub (pv 1) (pe_un un_neg pe_int) set_list))))))
    (pss_cons (ps_for PassesOwn.never rfl (pi_list (pv 1)) (pg_name (i := 3) sc_law_due.nd rfl (Or.inl rfl)) (pss_one (ps_if (pw_or (pt_cmpR op_lt (pe_callB call_lenT (by rfl) M.len PySem.boot_len (pa_cons (pv 3) pa_nil)) pe_int (nomark _)) (pw_or (pt_cmpR op_gt (pe_callB call_lenT (by rfl) M.len PySem.boot_len (pa_cons (pv 3) pa_nil)) pe_int (nomark _)) (pw_or1 (pt_cmpR op_gt (pe_callB call_len_seq (by rfl) M.len PySem.boot_len (pa_cons (pe_comp (fr := []) (cl := []) rfl (by exact ⟨rfl, trivial, by decide +kernel, rfl, by decide +kernel, rfl, trivial, rfl, by decide +kernel⟩) (pi_str (pv 3)) (fun _ _ _ _ => pts_one (pt_cmpR op_notIn_str (pv 0) (pe_strT [111, 46]) (by rfl))) (fun _ _ _ _ => (pv 0))) pa_nil)) pe_int (nomark _))))).pt (pss_one (ps_ret pe_non)) pss_nil)))
    (pss_cons (ps_if (pt_cmpR op_gt (pe_callB call_len_seq (by rfl) M.len PySem.boot_len (pa_cons (pv 1) pa_nil)) pe_int (nomark _)) (pss_one (ps_ret pe_non)) pss_nil)
    (pss_one (ps_ret (pv 1))))))), ?_⟩
  refine ⟨(by show 1 ≤ sizeLine; decide), fun p hp => ?_⟩
  refine ⟨_, rfl, _, rfl, ?_⟩
  refine for_str (l := x) (fun i σ H' => ∃ bk', Spl (x.take i) bk' ∧ H' = upd H p (.lst (bk'.map strT)) ∧ ∃ u, σ = [some (.str (T x)), some (.ref p), u, none]) ?hinit ?_ ?_
  case hinit => exact ⟨[[]], Spl.nil, rfl, _, rfl⟩
  · rintro i ch σ H' hc ⟨bk', hsp, rfl, u, rfl⟩
    have tk := take_snoc hc
    have il := (List.getElem?_eq_some_iff.mp hc).1
    have bl := hsp.len
    rw [List.length_take] at bl
    refine ⟨_, rfl, rfl, _, rfl, if_dec (fun c1 => ?_) (fun c1 => ?_)⟩
    · rw [T_eq] at c1
      have e : ch = 47 := by simpa using c1
      subst e
      refine ⟨_, rfl, .inl ⟨rfl, _, SqL.of upd_same⟩, p, _, _, rfl, rfl, upd_same, ?_, ?_⟩
      · rw [List.length_map]; exact small1000 (by omega)
      · rw [upd_upd]
        exact ⟨bk' ++ [[]], by rw [tk]; exact hsp.stroke, by rw [List.map_append]; rfl, _, rfl⟩
    · have ne : ch ≠ 47 := fun z => c1 (by rw [z])
      rcases List.eq_nil_or_concat bk' with z | ⟨bk0, l, z⟩
      · exact absurd z hsp.1
      rw [List.concat_eq_append] at z
      subst z
      have le := hsp.each (l := l) (by simp)
      rw [List.length_take] at le
      have la : (List.map strT (bk0 ++ [l])).getLast? = some (strT l) := by rw [List.map_append]; simp
      refine ⟨_, rfl, _, rfl, p, _, _, _, rfl, rfl, SqL.of upd_same, atI_neg1 la, _, rfl, _, _, rfl, rfl, sz (by simp only [List.length_cons, List.length_nil]; omega), ?_⟩
      refine ⟨_, rfl, _, rfl, p, _, _, bk0.length, rfl, rfl, upd_same, ?_, ?_⟩
      · unfold ixN
        rw [List.length_map, List.length_append, if_neg (by decide), if_pos (by simp only [List.length_cons, List.length_nil]; omega)]
        refine congrArg some ?_
        simp only [List.length_cons, List.length_nil]
        omega
      · rw [upd_upd]
        refine ⟨bk0 ++ [l ++ [ch]], by rw [tk]; exact hsp.sign ne, ?_, _, rfl⟩
        rw [List.map_append, List.map_append, List.set_append_right _ _ (by rw [List.length_map]; exact Nat.le_refl _), List.length_map, Nat.sub_self]
        rfl
  · rintro σ H' ⟨bk', hsp, rfl, u, rfl⟩
    rw [List.take_length] at hsp
    obtain rfl := hs.uniq hsp
    have zs := hs.szs hx
    have g2 := same_new hp (.lst (bk.map strT))
    have hpp : upd H p (.lst (bk.map strT)) p = some (.lst (bk.map strT)) := upd_same
    generalize upd H p (.lst (bk.map strT)) = H2 at g2 hpp ⊢
    refine ⟨_, rfl, p, rfl, ⟨_, SqL.of hpp⟩, ?_⟩
    refine for_list (K := K) (a := p) (xs := bk.map strT) (fun i σ H' => Same H2 H' ∧ (∃ u v, σ = [some (.str (T x)), some (.ref p), u, v]) ∧ ∀ j, j < i → Lit (nth bk j)) ?hinit (fun i σ H' _ z => SqL.of (z.1 _ _ hpp)) ?_ ?_
    case hinit => exact ⟨Same.refl _, ⟨_, _, rfl⟩, (fun j hj => by omega)⟩
    · rintro i y σ H' hy ⟨g, ⟨u, v, rfl⟩, al⟩
      obtain ⟨hi, rfl⟩ := strT_of hy
      have nm := nth_mem hi
      have z9 := zs.each _ nm
      generalize hl : nth bk i = l at nm z9 ⊢
      have no : ¬ Lit l → ∀ H3, Same H' H3 → Q .non H3 := fun nl H3 g3 => q2 (fun hO => nl (hO.lit l nm)) H3 ((g2.trans g).trans g3)
      refine ⟨_, rfl, _, rfl, sz (by omega), _, _, rfl, rfl, _, rfl, if_dec (fun c1 => iteT (no (fun z => by have := z.1; omega) _ (Same.refl _))) (fun c1 => ?_)⟩
      refine ⟨_, rfl, _, rfl, sz (by omega), _, _, rfl, rfl, _, rfl, if_dec (fun c2 => iteT (no (fun z => by have := z.2.1; omega) _ (Same.refl _))) (fun c2 => ?_)⟩
      refine ⟨_, rfl, l, rfl, ?_⟩
      refine ⟨fun j k ys H3 => H3 = H' ∧ j ≤ l.length ∧ k = l.length - j ∧ ys = ((l.take j).filter fun ch => !decide (ch ∈ [111, 46])).map sign1, ⟨_, rfl, Nat.zero_le _, rfl, rfl⟩, ?_⟩
      rintro j k ys H3 ⟨rfl, hj, rfl, rfl⟩
      have fl : ((l.take j).filter fun ch => !decide (ch ∈ [111, 46])).length ≤ 900 := Nat.le_trans (List.length_filter_le _ _) (by rw [List.length_take]; omega)
      by_cases cj : j < l.length
      · refine .inr ⟨cj, sz (by rw [List.length_map]; omega), ?_⟩
        rintro y H4 ⟨rfl, ch, hc, rfl⟩
        have tk := take_snoc hc
        refine ⟨_, rfl, _, _, rfl, rfl, _, rfl, ?_⟩
        rw [found_sign]
        by_cases cm : ch ∈ [111, 46]
        · rw [decide_eq_true cm]
          refine iteF ⟨l.length - (j + 1), by omega, rfl, by omega, rfl, ?_⟩
          rw [tk, List.filter_append, List.filter_cons, decide_eq_true cm]
          simp
        · rw [decide_eq_false cm]
          refine iteT ⟨_, rfl, l.length - (j + 1), by omega, rfl, by omega, rfl, ?_⟩
          rw [tk, List.filter_append, List.filter_cons, decide_eq_false cm]
          simp
      · have e : j = l.length := by omega
        subst e
        rw [List.take_length] at fl ⊢
        refine .inl ⟨Nat.le_refl _, sz (by rw [List.length_map]; omega), fun p2 hp2 => ?_⟩
        refine ⟨p2, _, rfl, .inl (SqL.of upd_same), _, _, rfl, rfl, _, rfl, if_dec (fun c3 => ?_) (fun c3 => ?_)⟩
        · rw [List.length_map] at c3
          refine no (fun z => ?_) _ (same_new hp2 _)
          have e : (l.filter fun ch => !decide (ch ∈ [111, 46])) = [] := List.filter_eq_nil_iff.mpr fun ch hch => by
            rcases z.2.2 ch hch with e | e <;> subst e <;> decide
          rw [e] at c3
          simp at c3
        · rw [List.length_map] at c3
          have e : (l.filter fun ch => !decide (ch ∈ [111, 46])) = [] := by
            cases hf : (l.filter fun ch => !decide (ch ∈ [111, 46])) with
            | nil => rfl
            | cons b r => rw [hf] at c3; simp at c3
          have hlit : Lit l := ⟨by omega, by omega, fun ch hch => by
            have := List.filter_eq_nil_iff.mp e ch hch
            simp at this
            omega⟩
          refine ⟨g.trans (same_new hp2 _), ⟨_, _, rfl⟩, fun j hj => ?_⟩
          by_cases ej : j = i
          · subst ej; rw [hl]; exact hlit
          · exact al j (by omega)
    · rintro σ H' ⟨g, ⟨u, v, rfl⟩, al⟩
      have li : litsOk bk := fun l hlm => by
        obtain ⟨j, hj, ej⟩ := List.getElem_of_mem hlm
        have := al j (by rw [List.length_map]; exact hj)
        rw [nth_of (by rw [List.getElem?_eq_getElem hj, ej])] at this
        exact this
      have h1 : 1 ≤ bk.length := by
        cases bk with
        | nil => exact absurd rfl hs.1
        | cons b r => simp
      refine ⟨_, rfl, p, _, rfl, .inl (SqL.of (g _ _ hpp)), _, _, rfl, rfl, _, rfl, if_dec (fun c1 => ?_) (fun c1 => ?_)⟩
      · rw [List.length_map] at c1
        exact q2 (fun hO => by have := hO.hi; omega) _ (g2.trans g)
      · rw [List.length_map] at c1
        exact ⟨_, rfl, q1 (.of ⟨h1, by omega⟩ li) p _ (g2.trans g) hp (g _ _ hpp)⟩
abbrev s_law_tried : Stmt := top 27
theorem sc_law_tried : FnScope ["text", "e"] ["text"] (defScope s_law_tried) := ⟨rfl, rfl, rfl, by decide +kernel, rfl, by decide +kernel, by decide +kernel⟩
set_option maxHeartbeats 4000000 in
theorem ok_law_tried (S : Src K mg "_law_tried" s_law_tried) (M : Mo K mg c) (D_read : DefC P w K mg base 4 "read" ["text"] (sp_read16 K c)) (D_law_word_of : DefH P w K mg base 1 "_law_word_of" ["e"] (sp_law_word_of K c)) : Def P w K mg base 5 "_law_tried" ["text"] (sp_tried16 K) := by
  refine S.is (fun _ _ _ _ _ _ us hl => match us, hl with | [_], _ => rfl) fun f fd F => ?_
  refine F.ok sc_law_tried (fun vs H Q E h => ?_) (fun cdv A outer s H vs Q E hr h => ?_)
  · obtain ⟨x, bk, rfl, _⟩ := h
    rfl
  obtain ⟨x, bk, rfl, hx, hs, q1, q2⟩ := h
  refine ⟨_, (pss_one (psC_try (i := 1) rfl rfl rfl sc_law_tried.nd rfl rfl (by rfl) M.g_LampError (fun _ _ _ hp => (pss_one (ps_ret (pe_callC D_read hp hr (by rfl) (pa_cons (pv 0) pa_nil))))) (fun m => (pss_one (ps_ret (pe_callH D_law_word_of (hr.toH m) (by rfl) (pa_cons (pv 1) pa_nil))))))), ?_⟩
  refine ⟨fun cls _ H1 => cls = .ref c.NoNote ∧ Same H H1 ∧ ¬ BkOk bk, ?_, ?_⟩
  · exact ⟨_, rfl, x, bk, rfl, hx, hs, q1, fun nO H' g => ⟨rfl, g, nO⟩⟩
  · rintro cls tg H1 ⟨rfl, g, nO⟩
    refine ⟨M.e_NoNote, fun ea hea => ?_⟩
    exact ⟨_, rfl, ea, c.NoNote, 5, rfl, upd_same, M.d_NoNote, fun H2 g2 => q2 nO H2 ((g.trans (same_new hea _)).trans g2)⟩
abbrev s_law : Stmt := top 28
theorem sc_law : FnScope ["script", "book", "text", "light", "due", "found"] ["script"] (defScope s_law) := ⟨rfl, rfl, rfl, by decide +kernel, rfl, by decide +kernel, by decide +kernel⟩
set_option maxHeartbeats 4000000 in
theorem ok_law {f : Addr} {fd : FuncData} (F : Fun K "law" "law" s_law f fd) (M : Mo K mg c) (D_law_cell_at : Def P w K mg base 1 "_law_cell_at" ["script", "k"] (sp_law_cell_at K)) (D_law_book_by : Def P w K mg base 2 "_law_book_by" ["script"] (sp_law_book_by K)) (D_law_spoilt : Def P w K mg base 1 "_law_spoilt" ["text", "kind", "cell"] (sp_spoilt16 K)) (D_law_due : Def P w K mg base 1 "_law_due" ["text"] (sp_due16 K)) (D_law_tried : Def P w K mg base 5 "_law_tried" ["text"] (sp_tried16 K)) : FnOk P w K mg base CX0 6 f fd ["script"] (sp_law K) := by
  refine F.ok sc_law (fun vs H Q E h => ?_) (fun cdv A outer s H vs Q E hr h => ?_)
  · obtain ⟨a, ns, rfl, _⟩ := h
    rfl
  obtain ⟨a, ns, rfl, hS, h63, q⟩ := h
  refine ⟨_, (pss_cons (ps_set (i := 1) sc_law.nd rfl (Or.inl rfl) (pe_callD D_law_book_by hr (by rfl) (pa_cons (pv 0) pa_nil)))
    (pss_cons (ps_set (i := 2) sc_law.nd rfl (Or.inl rfl) (pe_ix ix_list (pv 1) pe_int (fun _ _ => rfl)))
    (pss_cons (ps_for PassesOwn.never rfl (pi_list (pe_slice sl_list (pv 1) (po_some pe_int) po_none)) (pg_name (i := 3) sc_law.nd rfl (Or.inl rfl)) (pss_one (ps_set (i := 2) sc_law.nd rfl (Or.inl rfl) (pe_op op_addT (pe_op op_addT (pv 2) (pe_strT [47])) (pv 3)))))
    (pss_cons (ps_set (i := 2) sc_law.nd rfl (Or.inl rfl) (pe_callD D_law_spoilt hr (by rfl) (pa_cons (pv 2) (pa_cons (pe_op op_mod (pe_callD D_law_cell_at hr (by rfl) (pa_cons (pv 0) (pa_cons pe_int pa_nil))) pe_int) (pa_cons (pe_op op_mod (pe_callD D_law_cell_at hr (by rfl) (pa_cons (pv 0) (pa_cons pe_int pa_nil))) (pe_op op_pow pe_int pe_int)) pa_nil)))))
    (pss_cons (ps_set (i := 4) sc_law.nd rfl (Or.inl rfl) (pe_callD D_law_due hr (by rfl) (pa_cons (pv 2) pa_nil)))
    (pss_cons (ps_set (i := 5) sc_law.nd rfl (Or.inl rfl) (pe_callD D_law_tried hr (by rfl) (pa_cons (pv 2) pa_nil)))
    (pss_cons (ps_if (pt_cmpR op_isN (pv 4) pe_non (nomark _)) (pss_one (ps_ret (pe_cmpR op_eq (pv 5) (pe_strT [110, 111, 116, 101]) (nomark _)))) pss_nil)
    (pss_one (ps_ret (pe_and (pe_callB call_isi (by rfl) M.isinstance boot_isinstance (pa_cons (pv 5) (pa_cons (pe_bltn (v := .ty "list") (by rfl) M.list boot_list rfl) pa_nil))) (pe_one (pe_cmpR (op_eqL hr.units0) (pv 5) (pv 4) (nomark _))))))))))))), ?_⟩
  refine ⟨_, rfl, a, ns, rfl, hS, fun bk p H1 hO g1 hp0 hp => ?_⟩
  have h1 := hO.lo
  have h2 := hO.hi
  have b0 : Lit (nth bk 0) := hO.nth (by omega)
  refine ⟨_, rfl, p, _, _, _, rfl, rfl, SqL.of hp, strT_atI (bk := bk) (i := 0) (by decide) (by omega), ?_⟩
  refine ⟨_, rfl, _, rfl, p, _, rfl, SqL.of hp, fun p1 hp1 => ?_⟩
  have tl : cutV (bk.map strT) (some 1) none = (bk.drop 1).map strT := cut_drop (bk := bk) (i := 1) h1
  rw [tl]
  have g3 := same_new hp1 (.lst ((bk.drop 1).map strT))
  refine ⟨p1, rfl, ⟨_, SqL.of upd_same⟩, ?_⟩
  refine for_list (K := K) (a := p1) (xs := (bk.drop 1).map strT) (fun i σ H' => H' = upd H1 p1 (.lst ((bk.drop 1).map strT)) ∧ ∃ u t, t.length ≤ 12 + 13 * i ∧ σ = [some (.ref a), some (.ref p), some (.str (T t)), u, none, none]) ?hinit (fun i σ H' _ z => by rw [z.1]; exact SqL.of upd_same) ?_ ?_
  case hinit => exact ⟨rfl, none, nth bk 0, (by have := b0.2.1; omega), rfl⟩
  · rintro i y σ H' hy ⟨rfl, u, t, ht, rfl⟩
    obtain ⟨hi, rfl⟩ := strT_of hy
    have hl : Lit (nth (bk.drop 1) i) := hO.lit _ (List.mem_of_mem_drop (nth_mem hi))
    rw [List.length_drop] at hi
    have l2 := hl.2.1
    refine ⟨_, rfl, _, _, rfl, rfl, sz (by simp only [List.length_cons, List.length_nil]; omega), _, rfl, _, _, rfl, rfl, sz (by rw [List.length_append]; simp only [List.length_cons, List.length_nil]; omega), rfl, _, _, ?_, rfl⟩
    simp only [List.length_append, List.length_cons, List.length_nil]
    omega
  · rintro σ H' ⟨rfl, u, t, ht, rfl⟩
    rw [List.length_map, List.length_drop] at ht
    have hS3 := (g1.trans g3).seq hS
    refine ⟨_, rfl, _, rfl, a, ns, 14, rfl, hS3, by decide, fun i14 => ?_⟩
    refine ⟨_, _, rfl, rfl, (by show (0 : Int) < _; omega), ?_⟩
    refine ⟨_, rfl, a, ns, 15, rfl, hS3, by decide, fun i15 => ?_⟩
    refine ⟨_, _, rfl, rfl, ⟨by decide, by decide, by decide⟩, _, _, rfl, rfl, (by show (0 : Int) < _; decide), ?_⟩
    refine ⟨t, _, _, rfl, by omega, Int.emod_nonneg _ (by decide), fun y H4 g4 hy => ?_⟩
    obtain ⟨bk2, hs2⟩ := spl_ex y
    refine ⟨_, rfl, y, bk2, rfl, hy, hs2, fun hO2 pd H5 g5 hpd qd => ?_, fun nO H5 g5 => ?_⟩
    · refine ⟨_, rfl, y, bk2, rfl, hy, hs2, fun _ pf H6 g6 hpf qf => ?_, fun nO => absurd hO2 nO⟩
      have qd6 := g6 _ _ qd
      refine ⟨_, rfl, rfl, _, rfl, if_dec (fun z => nomatch z) (fun z => ?_)⟩
      refine ⟨_, rfl, _, _, _, _, rfl, TyOf.lst qf, rfl, _, rfl, iteT ?_⟩
      refine ⟨_, rfl, _, rfl, pf, pd, _, _, rfl, rfl, SqL.of qf, SqL.of qd6, (fun _ => ⟨flat_strT bk2, flat_strT bk2⟩), ?_⟩
      rw [if_neg Bool.false_ne_true, eqVs_strT]
      exact q _
    · refine ⟨_, rfl, y, bk2, rfl, hy, hs2, fun hO2 => absurd hO2 nO, fun _ H6 g6 => ?_⟩
      refine ⟨_, rfl, rfl, _, rfl, if_dec (fun z => ?_) (fun z => absurd rfl z)⟩
      refine ⟨_, rfl, rfl, ?_⟩
      exact q _
end
set_option maxHeartbeats 4000000 in
theorem all_mk {l : PySem.W.OpenLaw} {w : World} {K : PySem.W.Frag} {h : Heap} {mg : Str → Option Value} {fa f1 f2 f3 f4 f5 f6 f7 f8 f9 f10 f11 f12 : Addr} (X : K.In h) (G : h.Ns mainGlobals mg) (hfa : mg "law" = some (.ref fa))
    {od1 an1 od2 an2 od3 an3 od4 an4 od5 an5 od6 an6 od7 an7 od8 an8 od9 an9 od10 an10 od11 an11 od12 an12 : Option Addr} {sl1 sl2 sl3 sl4 sl5 sl6 sl7 sl8 sl9 sl10 sl11 sl12 : Array (Option Value)} {oc1 kV1 dc1 pm1 cd1 ct1 oc2 kV2 dc2 pm2 cd2 ct2 oc3 kV3 dc3 pm3 cd3 ct3 oc4 kV4 dc4 pm4 cd4 ct4 oc5 kV5 dc5 pm5 cd5 ct5 oc6 kV6 dc6 pm6 cd6 ct6 oc7 kV7 dc7 pm7 cd7 ct7 oc8 kV8 dc8 pm8 cd8 ct8 oc9 kV9 dc9 pm9 cd9 ct9 oc10 kV10 dc10 pm10 cd10 ct10 oc11 kV11 dc11 pm11 cd11 ct11 oc12 kV12 dc12 pm12 cd12 ct12 : Value} {i_DARK : Str} {t_DARK : Tok} {i_LIT : Str} {t_LIT : Tok} {i_LONGEST_ROW : Int} {t_LONGEST_ROW : Tok} {i_MOST_LIGHTS : Int} {t_MOST_LIGHTS : Tok} {i_STROKE : Str} {t_STROKE : Tok} {c_LampError c_NoLight c_NoBook c_NoSight c_NoFit c_TooLong c_NoNote : Addr}
    (a1 : PySem.W.nsIn K mainGlobals "lit_and_dark_alone" = some (some (.ref f1))) (l1 : K.lookup f1 = some ⟨oc1, od1, .func (PySem.W.fnOf "lit_and_dark_alone" "lit_and_dark_alone" (defArgs s_lit_and_dark_alone) (defBody s_lit_and_dark_alone) (defScope s_lit_and_dark_alone) .none kV1 dc1 pm1 an1 cd1 ct1), sl1⟩) (c1 : PySem.W.codeIn K cd1 "lit_and_dark_alone" = true) (k1 : PySem.W.keepIn K (.ref f1) = true)
    (a2 : PySem.W.nsIn K mainGlobals "check_light" = some (some (.ref f2))) (l2 : K.lookup f2 = some ⟨oc2, od2, .func (PySem.W.fnOf "check_light" "check_light" (defArgs s_check_light) (defBody s_check_light) (defScope s_check_light) .none kV2 dc2 pm2 an2 cd2 ct2), sl2⟩) (c2 : PySem.W.codeIn K cd2 "check_light" = true) (k2 : PySem.W.keepIn K (.ref f2) = true)
    (a3 : PySem.W.nsIn K mainGlobals "check_book" = some (some (.ref f3))) (l3 : K.lookup f3 = some ⟨oc3, od3, .func (PySem.W.fnOf "check_book" "check_book" (defArgs s_check_book) (defBody s_check_book) (defScope s_check_book) .none kV3 dc3 pm3 an3 cd3 ct3), sl3⟩) (c3 : PySem.W.codeIn K cd3 "check_book" = true) (k3 : PySem.W.keepIn K (.ref f3) = true)
    (a4 : PySem.W.nsIn K mainGlobals "read" = some (some (.ref f4))) (l4 : K.lookup f4 = some ⟨oc4, od4, .func (PySem.W.fnOf "read" "read" (defArgs s_read) (defBody s_read) (defScope s_read) .none kV4 dc4 pm4 an4 cd4 ct4), sl4⟩) (c4 : PySem.W.codeIn K cd4 "read" = true) (k4 : PySem.W.keepIn K (.ref f4) = true)
    (a5 : PySem.W.nsIn K mainGlobals "_law_cell_at" = some (some (.ref f5))) (l5 : K.lookup f5 = some ⟨oc5, od5, .func (PySem.W.fnOf "_law_cell_at" "_law_cell_at" (defArgs s_law_cell_at) (defBody s_law_cell_at) (defScope s_law_cell_at) .none kV5 dc5 pm5 an5 cd5 ct5), sl5⟩) (c5 : PySem.W.codeIn K cd5 "_law_cell_at" = true) (k5 : PySem.W.keepIn K (.ref f5) = true)
    (a6 : PySem.W.nsIn K mainGlobals "_law_word_of" = some (some (.ref f6))) (l6 : K.lookup f6 = some ⟨oc6, od6, .func (PySem.W.fnOf "_law_word_of" "_law_word_of" (defArgs s_law_word_of) (defBody s_law_word_of) (defScope s_law_word_of) .none kV6 dc6 pm6 an6 cd6 ct6), sl6⟩) (c6 : PySem.W.codeIn K cd6 "_law_word_of" = true) (k6 : PySem.W.keepIn K (.ref f6) = true)
    (a7 : PySem.W.nsIn K mainGlobals "_law_light_by" = some (some (.ref f7))) (l7 : K.lookup f7 = some ⟨oc7, od7, .func (PySem.W.fnOf "_law_light_by" "_law_light_by" (defArgs s_law_light_by) (defBody s_law_light_by) (defScope s_law_light_by) .none kV7 dc7 pm7 an7 cd7 ct7), sl7⟩) (c7 : PySem.W.codeIn K cd7 "_law_light_by" = true) (k7 : PySem.W.keepIn K (.ref f7) = true)
    (a8 : PySem.W.nsIn K mainGlobals "_law_book_by" = some (some (.ref f8))) (l8 : K.lookup f8 = some ⟨oc8, od8, .func (PySem.W.fnOf "_law_book_by" "_law_book_by" (defArgs s_law_book_by) (defBody s_law_book_by) (defScope s_law_book_by) .none kV8 dc8 pm8 an8 cd8 ct8), sl8⟩) (c8 : PySem.W.codeIn K cd8 "_law_book_by" = true) (k8 : PySem.W.keepIn K (.ref f8) = true)
    (a9 : PySem.W.nsIn K mainGlobals "_law_spoilt" = some (some (.ref f9))) (l9 : K.lookup f9 = some ⟨oc9, od9, .func (PySem.W.fnOf "_law_spoilt" "_law_spoilt" (defArgs s_law_spoilt) (defBody s_law_spoilt) (defScope s_law_spoilt) .none kV9 dc9 pm9 an9 cd9 ct9), sl9⟩) (c9 : PySem.W.codeIn K cd9 "_law_spoilt" = true) (k9 : PySem.W.keepIn K (.ref f9) = true)
    (a10 : PySem.W.nsIn K mainGlobals "_law_due" = some (some (.ref f10))) (l10 : K.lookup f10 = some ⟨oc10, od10, .func (PySem.W.fnOf "_law_due" "_law_due" (defArgs s_law_due) (defBody s_law_due) (defScope s_law_due) .none kV10 dc10 pm10 an10 cd10 ct10), sl10⟩) (c10 : PySem.W.codeIn K cd10 "_law_due" = true) (k10 : PySem.W.keepIn K (.ref f10) = true)
    (a11 : PySem.W.nsIn K mainGlobals "_law_tried" = some (some (.ref f11))) (l11 : K.lookup f11 = some ⟨oc11, od11, .func (PySem.W.fnOf "_law_tried" "_law_tried" (defArgs s_law_tried) (defBody s_law_tried) (defScope s_law_tried) .none kV11 dc11 pm11 an11 cd11 ct11), sl11⟩) (c11 : PySem.W.codeIn K cd11 "_law_tried" = true) (k11 : PySem.W.keepIn K (.ref f11) = true)
    (a12 : PySem.W.nsIn K mainGlobals "law" = some (some (.ref f12))) (l12 : K.lookup f12 = some ⟨oc12, od12, .func (PySem.W.fnOf "law" "law" (defArgs s_law) (defBody s_law) (defScope s_law) .none kV12 dc12 pm12 an12 cd12 ct12), sl12⟩) (c12 : PySem.W.codeIn K cd12 "law" = true) (k12 : PySem.W.keepIn K (.ref f12) = true)
    (z_ValueError : PySem.W.nsIn K mainGlobals "ValueError" = some none)
    (z_isinstance : PySem.W.nsIn K mainGlobals "isinstance" = some none)
    (z_len : PySem.W.nsIn K mainGlobals "len" = some none)
    (z_list : PySem.W.nsIn K mainGlobals "list" = some none)
    (z_range : PySem.W.nsIn K mainGlobals "range" = some none)
    (z_DARK : PySem.W.nsIn K mainGlobals "DARK" = some (some (.str i_DARK t_DARK))) (q_DARK : i_DARK = T [46])
    (z_LIT : PySem.W.nsIn K mainGlobals "LIT" = some (some (.str i_LIT t_LIT))) (q_LIT : i_LIT = T [111])
    (z_LONGEST_ROW : PySem.W.nsIn K mainGlobals "LONGEST_ROW" = some (some (.int i_LONGEST_ROW t_LONGEST_ROW))) (q_LONGEST_ROW : i_LONGEST_ROW = 12)
    (z_MOST_LIGHTS : PySem.W.nsIn K mainGlobals "MOST_LIGHTS" = some (some (.int i_MOST_LIGHTS t_MOST_LIGHTS))) (q_MOST_LIGHTS : i_MOST_LIGHTS = 5)
    (z_STROKE : PySem.W.nsIn K mainGlobals "STROKE" = some (some (.str i_STROKE t_STROKE))) (q_STROKE : i_STROKE = T [47])
    (b_LampError : PySem.W.nsIn K mainGlobals "LampError" = some (some (.ref c_LampError)))
    (b_NoLight : PySem.W.nsIn K mainGlobals "NoLight" = some (some (.ref c_NoLight)))
    (b_NoBook : PySem.W.nsIn K mainGlobals "NoBook" = some (some (.ref c_NoBook)))
    (b_NoSight : PySem.W.nsIn K mainGlobals "NoSight" = some (some (.ref c_NoSight)))
    (b_NoFit : PySem.W.nsIn K mainGlobals "NoFit" = some (some (.ref c_NoFit)))
    (b_TooLong : PySem.W.nsIn K mainGlobals "TooLong" = some (some (.ref c_TooLong)))
    (b_NoNote : PySem.W.nsIn K mainGlobals "NoNote" = some (some (.ref c_NoNote)))
    (w_x_NoLight : PySem.W.excIn K c_NoLight [.type "ValueError", .type "Exception", .type "BaseException", .type "object"] "ValueError.__new__" = true)
    (w_x_NoBook : PySem.W.excIn K c_NoBook [.type "ValueError", .type "Exception", .type "BaseException", .type "object"] "ValueError.__new__" = true)
    (w_x_NoNote : PySem.W.excIn K c_NoNote [.type "ValueError", .type "Exception", .type "BaseException", .type "object"] "ValueError.__new__" = true)
    (w_e_NoNote : PySem.W.exmOne K (.ref c_NoNote) (.ref c_LampError) = some true)
    (u1_NoNote : (PySem.W.clsIn K c_NoNote).isSome = true) (u2_NoNote : PySem.W.findIn K (.ref c_NoNote) "__getattribute__" = some (some (.builtin "BaseException.__getattribute__"))) (u6_NoNote : PySem.W.findIn K (.ref c_NoNote) "__getattr__" = some none) (u7_NoNote : PySem.W.mroIn K c_NoNote (.type "BaseException") = some true) (u3_NoNote : PySem.W.findIn K (.ref c_NoNote) "__class__" = some (some (.builtin "object.__class__"))) (u4_NoNote : PySem.W.mroIn K c_NoNote (.type "object") = some true) (u5_NoNote : PySem.W.kitOne K (.ref c_NoNote) (.type "ValueError") = some true)
    (t_NoNote_NoLight : PySem.W.kitOne K (.ref c_NoNote) (.ref c_NoLight) = some false)
    (t_NoNote_NoBook : PySem.W.kitOne K (.ref c_NoNote) (.ref c_NoBook) = some false)
    (t_NoNote_NoSight : PySem.W.kitOne K (.ref c_NoNote) (.ref c_NoSight) = some false)
    (t_NoNote_NoFit : PySem.W.kitOne K (.ref c_NoNote) (.ref c_NoFit) = some false)
    (t_NoNote_TooLong : PySem.W.kitOne K (.ref c_NoNote) (.ref c_TooLong) = some false)
    (t_NoNote_NoNote : PySem.W.kitOne K (.ref c_NoNote) (.ref c_NoNote) = some true)
    (w_n_NoBook : PySem.W.exmAny K (.ref c_NoBook) [.ref c_NoBook, .ref c_NoLight] = some true)
    (w_n_NoLight : PySem.W.exmAny K (.ref c_NoLight) [.ref c_NoBook, .ref c_NoLight] = some true)
    (r1 : PySem.W.specialIn K (.builtin "object.__class__") "__get__" = some (some (.builtin "getset_descriptor.__get__"))) (r2 : PySem.W.takesIn K (.builtin "object.__class__") = some true) :
    ∃ fd : FuncData, (∀ (s : Shared) (v : Value), BindsTo s fd ⟨[v], []⟩ [("script", v)]) ∧ ∀ base : Heap, K.In base → base.Ns mainGlobals mg → FnOk l.prog w K mg base CX0 6 fa fd ["script"] (sp_law K) := by
  have e := hfa.symm.trans (PySem.W.mg_of X G a12)
  cases e
  have S1 : Src K mg "lit_and_dark_alone" s_lit_and_dark_alone := ⟨_, _, fun_mk (st := s_lit_and_dark_alone) l1 c1 k1, PySem.W.mg_of X G a1⟩
  have S2 : Src K mg "check_light" s_check_light := ⟨_, _, fun_mk (st := s_check_light) l2 c2 k2, PySem.W.mg_of X G a2⟩
  have S3 : Src K mg "check_book" s_check_book := ⟨_, _, fun_mk (st := s_check_book) l3 c3 k3, PySem.W.mg_of X G a3⟩
  have S4 : Src K mg "read" s_read := ⟨_, _, fun_mk (st := s_read) l4 c4 k4, PySem.W.mg_of X G a4⟩
  have S5 : Src K mg "_law_cell_at" s_law_cell_at := ⟨_, _, fun_mk (st := s_law_cell_at) l5 c5 k5, PySem.W.mg_of X G a5⟩
  have S6 : Src K mg "_law_word_of" s_law_word_of := ⟨_, _, fun_mk (st := s_law_word_of) l6 c6 k6, PySem.W.mg_of X G a6⟩
  have S7 : Src K mg "_law_light_by" s_law_light_by := ⟨_, _, fun_mk (st := s_law_light_by) l7 c7 k7, PySem.W.mg_of X G a7⟩
  have S8 : Src K mg "_law_book_by" s_law_book_by := ⟨_, _, fun_mk (st := s_law_book_by) l8 c8 k8, PySem.W.mg_of X G a8⟩
  have S9 : Src K mg "_law_spoilt" s_law_spoilt := ⟨_, _, fun_mk (st := s_law_spoilt) l9 c9 k9, PySem.W.mg_of X G a9⟩
  have S10 : Src K mg "_law_due" s_law_due := ⟨_, _, fun_mk (st := s_law_due) l10 c10 k10, PySem.W.mg_of X G a10⟩
  have S11 : Src K mg "_law_tried" s_law_tried := ⟨_, _, fun_mk (st := s_law_tried) l11 c11 k11, PySem.W.mg_of X G a11⟩
  have M : Mo K mg (⟨c_LampError, c_NoLight, c_NoBook, c_NoSight, c_NoFit, c_TooLong, c_NoNote⟩ : Cs) := ⟨PySem.W.mg_none_of X G z_ValueError, PySem.W.mg_none_of X G z_isinstance, PySem.W.mg_none_of X G z_len, PySem.W.mg_none_of X G z_list, PySem.W.mg_none_of X G z_range, ⟨_, PySem.W.mg_of X G z_DARK, _, by rw [q_DARK]⟩, ⟨_, PySem.W.mg_of X G z_LIT, _, by rw [q_LIT]⟩, ⟨_, PySem.W.mg_of X G z_LONGEST_ROW, _, by rw [q_LONGEST_ROW]⟩, ⟨_, PySem.W.mg_of X G z_MOST_LIGHTS, _, by rw [q_MOST_LIGHTS]⟩, ⟨_, PySem.W.mg_of X G z_STROKE, _, by rw [q_STROKE]⟩, PySem.W.mg_of X G b_LampError, PySem.W.mg_of X G b_NoLight, PySem.W.mg_of X G b_NoBook, PySem.W.mg_of X G b_NoSight, PySem.W.mg_of X G b_NoFit, PySem.W.mg_of X G b_TooLong, PySem.W.mg_of X G b_NoNote, w_x_NoLight, w_x_NoBook, w_x_NoNote, w_e_NoNote, ⟨⟨u1_NoNote, u2_NoNote, u6_NoNote, u3_NoNote, r1, r2, u4_NoNote, u7_NoNote⟩, t_NoNote_NoLight, t_NoNote_NoBook, t_NoNote_NoSight, t_NoNote_NoFit, t_NoNote_TooLong, t_NoNote_NoNote, u5_NoNote, by decide⟩, w_n_NoBook, w_n_NoLight⟩
  refine ⟨PySem.W.fnOf "law" "law" (defArgs s_law) (defBody s_law) (defScope s_law) .none kV12 dc12 pm12 an12 cd12 ct12, fun s v => .of_eq rfl, fun base _ _ => ?_⟩
  have D_lit_and_dark_alone := ok_lit_and_dark_alone (P := l.prog) (w := w) (base := base) S1 M
  have D_check_light := ok_check_light (P := l.prog) (w := w) (base := base) S2 M D_lit_and_dark_alone
  have O_check_light := okE_check_light (P := l.prog) (w := w) (base := base) S2 M D_lit_and_dark_alone
  have D_check_book := ok_check_book (P := l.prog) (w := w) (base := base) S3 M D_check_light
  have O_check_book := okE_check_book (P := l.prog) (w := w) (base := base) S3 M D_check_light O_check_light
  have D_read := ok_read (P := l.prog) (w := w) (base := base) S4 M O_check_book
  have D_law_cell_at := ok_law_cell_at (P := l.prog) (w := w) (base := base) S5 M
  have D_law_word_of := ok_law_word_of (P := l.prog) (w := w) (base := base) S6 M
  have D_law_light_by := ok_law_light_by (P := l.prog) (w := w) (base := base) S7 M
  have D_law_book_by := ok_law_book_by (P := l.prog) (w := w) (base := base) S8 M D_law_cell_at D_law_light_by
  have D_law_spoilt := ok_law_spoilt (P := l.prog) (w := w) (base := base) S9 M
  have D_law_due := ok_law_due (P := l.prog) (w := w) (base := base) S10 M
  have D_law_tried := ok_law_tried (P := l.prog) (w := w) (base := base) S11 M D_read D_law_word_of
  exact ok_law (P := l.prog) (w := w) (base := base) (fun_mk (st := s_law) l12 c12 k12) M D_law_cell_at D_law_book_by D_law_spoilt D_law_due D_law_tried
theorem walk {l : PySem.W.OpenLaw} {q : Program} {loose : List Str} {XP : (Str → Option Value) → Heap → Prop} {YP : World → Heap → Prop} {d : DefRec} {K : Params → PySem.W.Frag} (hn : l.most = some 63) (hdf : d.params.defaults = [])
    (hY : ∀ (w : World) (h : Heap), YP w h → (K w.params).In h)
    (F : ∀ (w : World) (mg : Str → Option Value) (fa : Addr) (h : Heap), (K w.params).In h → h.Ns mainGlobals mg → mg d.name = some (.ref fa) →
      ∃ fd : FuncData, (∀ (s : Shared) (u : Value), BindsTo s fd ⟨[u], []⟩ [("script", u)]) ∧ ∀ base : Heap, (K w.params).In base → base.Ns mainGlobals mg → FnOk l.prog w (K w.params) mg base CX0 6 fa fd ["script"] (sp_law (K w.params))) :
    PySem.W.WalkO q loose XP YP l.row.toRowW d [] (fun f vs => PySem.call f vs) :=
  L2.walk_of (n := 63) (k := 6) (x := "script") (CX := fun _ => CX0) (sp := fun w => sp_law (K w.params)) hn (by decide) hdf ⟨rfl, by decide, by decide⟩ hY F (fun _ _ a ns hl _ hS => ⟨a, ns, rfl, hS, hl, fun _ => rfl⟩) fun _ _ _ _ _ z => z
end Lw
open PySem PySem.W PyProof.Rows
set_option maxRecDepth 100000 in
set_option maxHeartbeats 0 in
theorem PySem.Challenge.cw_lampwatch_k16_read_holds : PySem.Challenge.rw_lampwatch_k16_read.Holds := by
  w_on; o_law; k_head; (case hw => w_witness2)
  k_fill
  refine Lw.walk (l := PySem.Challenge.rw_lampwatch_k16_read) rfl rfl (fun w h Y => PySem.W.kIn_of Y) ?F
  case F =>
    intro w mg fa h KX G hmg
    refine' Lw.all_mk KX G hmg ?a1 ?l1 ?c1 ?k1 ?a2 ?l2 ?c2 ?k2 ?a3 ?l3 ?c3 ?k3 ?a4 ?l4 ?c4 ?k4 ?a5 ?l5 ?c5 ?k5 ?a6 ?l6 ?c6 ?k6 ?a7 ?l7 ?c7 ?k7 ?a8 ?l8 ?c8 ?k8 ?a9 ?l9 ?c9 ?k9 ?a10 ?l10 ?c10 ?k10 ?a11 ?l11 ?c11 ?k11 ?a12 ?l12 ?c12 ?k12 ?z_ValueError ?z_isinstance ?z_len ?z_list ?z_range ?z_DARK ?q_DARK ?z_LIT ?q_LIT ?z_LONGEST_ROW ?q_LONGEST_ROW ?z_MOST_LIGHTS ?q_MOST_LIGHTS ?z_STROKE ?q_STROKE ?b_LampError ?b_NoLight ?b_NoBook ?b_NoSight ?b_NoFit ?b_TooLong ?b_NoNote ?w_x_NoLight ?w_x_NoBook ?w_x_NoNote ?w_e_NoNote ?u1_NoNote ?u2_NoNote ?u6_NoNote ?u7_NoNote ?u3_NoNote ?u4_NoNote ?u5_NoNote ?t_NoNote_NoLight ?t_NoNote_NoBook ?t_NoNote_NoSight ?t_NoNote_NoFit ?t_NoNote_TooLong ?t_NoNote_NoNote ?w_n_NoBook ?w_n_NoLight ?r1 ?r2
    (case a1 => k_is)
    (case l1 => k_is)
    (case c1 => k_is)
    (case k1 => k_is)
    (case a2 => k_is)
    (case l2 => k_is)
    (case c2 => k_is)
    (case k2 => k_is)
    (case a3 => k_is)
    (case l3 => k_is)
    (case c3 => k_is)
    (case k3 => k_is)
    (case a4 => k_is)
    (case l4 => k_is)
    (case c4 => k_is)
    (case k4 => k_is)
    (case a5 => k_is)
    (case l5 => k_is)
    (case c5 => k_is)
    (case k5 => k_is)
    (case a6 => k_is)
    (case l6 => k_is)
    (case c6 => k_is)
    (case k6 => k_is)
    (case a7 => k_is)
    (case l7 => k_is)
    (case c7 => k_is)
    (case k7 => k_is)
    (case a8 => k_is)
    (case l8 => k_is)
    (case c8 => k_is)
    (case k8 => k_is)
    (case a9 => k_is)
    (case l9 => k_is)
    (case c9 => k_is)
    (case k9 => k_is)
    (case a10 => k_is)
    (case l10 => k_is)
    (case c10 => k_is)
    (case k10 => k_is)
    (case a11 => k_is)
    (case l11 => k_is)
    (case c11 => k_is)
    (case k11 => k_is)
    (case a12 => k_is)
    (case l12 => k_is)
    (case c12 => k_is)
    (case k12 => k_is)
    (case z_ValueError => k_is)
    (case z_isinstance => k_is)
    (case z_len => k_is)
    (case z_list => k_is)
    (case z_range => k_is)
    (case z_DARK => k_is)
    (case q_DARK => decide +kernel)
    (case z_LIT => k_is)
    (case q_LIT => decide +kernel)
    (case z_LONGEST_ROW => k_is)
    (case q_LONGEST_ROW => decide +kernel)
    (case z_MOST_LIGHTS => k_is)
    (case q_MOST_LIGHTS => decide +kernel)
    (case z_STROKE => k_is)
    (case q_STROKE => decide +kernel)
    (case b_LampError => k_is)
    (case b_NoLight => k_is)
    (case b_NoBook => k_is)
    (case b_NoSight => k_is)
    (case b_NoFit => k_is)
    (case b_TooLong => k_is)
    (case b_NoNote => k_is)
    (case w_x_NoLight => k_exc)
    (case w_x_NoBook => k_exc)
    (case w_x_NoNote => k_exc)
    (case w_e_NoNote => kts_exm)
    (case u1_NoNote => exact Option.isSome_iff_exists.mpr ⟨_, by k_is⟩)
    (case u2_NoNote => k_is)
    (case u6_NoNote => k_is)
    (case u7_NoNote => k_is)
    (case u3_NoNote => k_is)
    (case u4_NoNote => k_is)
    (case u5_NoNote => kit_is)
    (case t_NoNote_NoLight => kit_is)
    (case t_NoNote_NoBook => kit_is)
    (case t_NoNote_NoSight => kit_is)
    (case t_NoNote_NoFit => kit_is)
    (case t_NoNote_TooLong => kit_is)
    (case t_NoNote_NoNote => kit_is)
    (case w_n_NoBook => kts_exm)
    (case w_n_NoLight => kts_exm)
    (case r1 => k_is)
    (case r2 => k_is)
